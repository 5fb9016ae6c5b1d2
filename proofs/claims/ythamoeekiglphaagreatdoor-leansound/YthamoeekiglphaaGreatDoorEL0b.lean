/-
  Orders and rings of steps, in lists: of no program. Rings of steps: there is one just if there is no order, in lists: of no program. Steps of edges, rings of wh
-/
import Derived.Test.YthamoeekiglphaaGreatDoorEL0a
import Derived.RangeFuncCalls
import Derived.OrdersIn
import Derived.TacticsIn
import Derived.RangeFuncNested
import Derived.RangeFuncBound
import Derived.RangeFuncLeaves
import Derived.RangeFuncBox
import Derived.Shelf.Abstract
import Derived.Shelf.RegionOpen
import Derived.OwnWalkIn
import Derived.TacticsInMore
import Derived.LoopNIn
import Derived.LoopIn
import Derived.SizedLaws
import Derived.SliceStrings
namespace Go.Proofs.YthamoeekiglphaaGreatDoor
set_option maxRecDepth 100000
set_option linter.unusedVariables false
section
variable {α:Type}
abbrev Sp (α:Type):=Int × Int × α
def freeP (l:List (Sp α)) (left:List Int) (x:Int):Prop:=∀ s∈l,¬ (s.2.1=x∧s.1∈left)
def freeB (l:List (Sp α)) (left:List Int) (x:Int):Bool:=l.all fun s=>!(decide (s.2.1=x)&&decide (s.1∈left))
theorem free_iff (l:List (Sp α)) (left:List Int) (x:Int):freeB l left x=true↔freeP l left x:=by
 unfold freeB freeP;rw [List.all_eq_true]
 constructor
 ·intro h s hs hh
  have:=h s hs;simp [hh.1,hh.2] at this
 ·intro h s hs
  have:=h s hs;simp only [Bool.not_eq_true',Bool.and_eq_false_iff,decide_eq_false_iff_not]
  by_cases h1:s.2.1=x
  ·exact .inr fun h2=>this ⟨h1,h2⟩
  ·exact .inl h1
def minI:List Int→Option Int
 | []=>none
 | x::l=>match minI l with
   | none=>some x
   | some y=>some (if x≤y then x else y)
theorem minI_none:∀ l:List Int,minI l=none↔l=[]
 | []=>by simp [minI]
 | x::l=>by
   rw [minI];cases minI l<;>simp
theorem minI_some:∀ (l:List Int) (x:Int),minI l=some x↔x∈l∧∀ y∈l,x≤y
 | [],x=>by simp [minI]
 | a::l,x=>by
   rw [minI];cases hm:minI l with
   | none =>
     have:=(minI_none l).1 hm;subst this;simp only [Option.some.injEq,List.mem_singleton]
     constructor
     ·rintro rfl;exact ⟨rfl,fun y hy=>by rw [hy];exact Int.le_refl _⟩
     ·intro h;exact h.1.symm
   | some b =>
     obtain ⟨h1,h2⟩:=(minI_some l b).1 hm;simp only [Option.some.injEq]
     constructor
     ·rintro rfl
      by_cases hab:a≤b
      ·rw [if_pos hab]
       exact ⟨List.mem_cons_self ..,fun y hy=>by
        rcases List.mem_cons.1 hy with rfl | hy
        ·exact Int.le_refl _
        ·have:=h2 y hy;omega⟩
      ·rw [if_neg hab]
       exact ⟨List.mem_cons_of_mem _ h1,fun y hy=>by
        rcases List.mem_cons.1 hy with rfl | hy
        ·omega
        ·exact h2 y hy⟩
     ·intro ⟨g1,g2⟩
      have ga:=g2 a (List.mem_cons_self ..);have gb:=g2 b (List.mem_cons_of_mem _ h1);rcases List.mem_cons.1 g1 with rfl | g1
      ·rw [if_pos gb]
      ·have:=h2 x g1
       by_cases hab:a≤b
       ·rw [if_pos hab];omega
       ·rw [if_neg hab];omega
def bestL (l:List (Sp α)) (left:List Int):Option Int:=minI (left.filter fun x=>freeB l left x)
def orderF (l:List (Sp α)):Nat→List Int→Option (List Int)
 | 0,left=>if left=[] then some [] else none
 | n+1,left=>if left=[] then some [] else
   match bestL l left with
   | none=>none
   | some b=>match orderF l n (left.filter fun x=>decide (x≠b)) with
     | none=>none
     | some o=>some (b::o)
def orderL (nodes:List Int) (l:List (Sp α)):Option (List Int):=orderF l nodes.length nodes
theorem best_some (l:List (Sp α)) (left:List Int) (b:Int):bestL l left=some b↔(b∈left∧freeP l left b)∧∀ y∈left,freeP l left y→b≤y:=by
 unfold bestL;rw [minI_some];simp only [List.mem_filter,free_iff]
 constructor
 ·intro ⟨h1,h2⟩;exact ⟨h1,fun y hy hf=>h2 y ⟨hy,hf⟩⟩
 ·intro ⟨h1,h2⟩;exact ⟨h1,fun y hy=>h2 y hy.1 hy.2⟩
theorem filter_less (left:List Int) (b:Int) (hb:b∈left):(left.filter fun x=>decide (x≠b)).length < left.length:=by
 have h:=List.length_filter_lt_length_iff_exists (p:=fun x=>decide (x≠b)) (l:=left);exact h.2 ⟨b,hb,by simp⟩
def Walk (l:List (Sp α)):Nat→Int→Int→Prop
 | 0,x,y=>x=y
 | n+1,x,y=>∃ s,s∈l∧Walk l n s.2.1 y∧x=s.1
theorem Walk.nil {l:List (Sp α)} (x:Int):Walk l 0 x x:=rfl
theorem Walk.cons {l:List (Sp α)} (s:Sp α) (n:Nat) (y:Int) (hs:s∈l) (h:Walk l n s.2.1 y):Walk l (n+1) s.1 y:=⟨s,hs,h,rfl⟩
theorem Walk.elim {l:List (Sp α)} {motive:(n:Nat)→(x y:Int)→Walk l n x y→Prop} (nil:∀ x,motive 0 x x (Walk.nil x)) (cons:∀ (s:Sp α) (n:Nat) (y:Int) (hs:s∈l) (h:Walk l n s.2.1 y),motive n s.2.1 y h→motive (n+1) s.1 y (Walk.cons s n y hs h)) {n:Nat} {x y:Int} (h:Walk l n x y):motive n x y h:=by
 induction n generalizing x with
 | zero=>have e:x=y:=h
         subst e;exact nil x
 | succ n ih =>
   obtain ⟨s,hs,h1,rfl⟩:=h;exact cons s n y hs h1 (ih h1)
theorem Walk.append {l:List (Sp α)} {n m:Nat} {x y z:Int} (h:Walk l n x y) (k:Walk l m y z):Walk l (n+m) x z:=by
 induction h using Walk.elim with
 | nil x=>rw [Nat.zero_add];exact k
 | cons s n y hs _ ih=>rw [show n+1+m=(n+m)+1 by omega];exact .cons s _ _ hs (ih k)
def isStart (l:List (Sp α)) (x:Int):Prop:=∃ s∈l,s.1=x
theorem Walk.start {l:List (Sp α)} {n:Nat} {x y:Int} (h:Walk l (n+1) x y):isStart l x:=by
 obtain ⟨s,hs,_,rfl⟩:=h;exact ⟨s,hs,rfl⟩
end
end Go.Proofs.YthamoeekiglphaaGreatDoor
namespace Go.Proofs.YthamoeekiglphaaGreatDoor
set_option maxRecDepth 100000
set_option linter.unusedVariables false
section
variable {α:Type}
def chainB:List (Sp α)→Int→Int→Prop
 | [],a,b=>a=b
 | s::r,a,b=>s.1=a∧chainB r s.2.1 b
def closedP (r:List (Sp α)):Prop:=∃ s r',r=s::r'∧chainB r s.1 s.1
def insI (k:Int):List Int→List Int
 | []=>[k]
 | x::l=>if x < k then x::insI k l else if x=k then x::l else k::x::l
def startsF:List Int→List (Sp α)→List Int
 | acc,[]=>acc
 | acc,s::l=>startsF (insI s.1 acc) l
def startsL (l:List (Sp α)):List Int:=startsF [] l
theorem insI_mem (k:Int):∀ (l:List Int) (y:Int),y∈insI k l↔y=k∨y∈l
 | [],y=>by rw [insI];simp
 | x::l,y=>by
   rw [insI]
   by_cases h1:x < k
   ·rw [if_pos h1,List.mem_cons,insI_mem k l y,List.mem_cons]
    constructor
    ·rintro (h | h | h)
     ·exact .inr (.inl h)
     ·exact .inl h
     ·exact .inr (.inr h)
    ·rintro (h | h | h)
     ·exact .inr (.inl h)
     ·exact .inl h
     ·exact .inr (.inr h)
   ·rw [if_neg h1]
    by_cases h2:x=k
    ·rw [if_pos h2,List.mem_cons]
     constructor
     ·intro h;exact .inr h
     ·rintro (h | h)
      ·exact .inl (by rw [h,h2])
      ·exact h
    ·rw [if_neg h2,List.mem_cons]
theorem insI_sorted (k:Int):∀ l:List Int,l.Pairwise (·< ·)→(insI k l).Pairwise (·< ·)
 | [],_=>by rw [insI];exact List.pairwise_singleton ..
 | x::l,h=>by
   rw [insI];rw [List.pairwise_cons] at h
   by_cases h1:x < k
   ·rw [if_pos h1,List.pairwise_cons]
    refine ⟨fun y hy=>?_,insI_sorted k l h.2⟩;rcases (insI_mem k l y).1 hy with rfl | hy
    ·exact h1
    ·exact h.1 y hy
   ·rw [if_neg h1]
    by_cases h2:x=k
    ·rw [if_pos h2,List.pairwise_cons];exact h
    ·rw [if_neg h2,List.pairwise_cons]
     refine ⟨fun y hy=>?_,List.pairwise_cons.2 h⟩;rcases List.mem_cons.1 hy with rfl | hy
     ·omega
     ·have:=h.1 y hy;omega
theorem startsF_mem (y:Int):∀ (l:List (Sp α)) (acc:List Int),y∈startsF acc l↔y∈acc∨isStart l y
 | [],acc=>by rw [startsF];unfold isStart;simp
 | s::l,acc=>by
   rw [startsF,startsF_mem y l,insI_mem];unfold isStart
   constructor
   ·rintro ((h | h) | ⟨z,hz,h⟩)
    ·exact .inr ⟨s,List.mem_cons_self ..,h.symm⟩
    ·exact .inl h
    ·exact .inr ⟨z,List.mem_cons_of_mem _ hz,h⟩
   ·rintro (h | ⟨z,hz,h⟩)
    ·exact .inl (.inr h)
    ·rcases List.mem_cons.1 hz with rfl | hz
     ·exact .inl (.inl h.symm)
     ·exact .inr ⟨z,hz,h⟩
theorem starts_mem (l:List (Sp α)) (y:Int):y∈startsL l↔isStart l y:=by unfold startsL;rw [startsF_mem];simp
theorem startsF_sorted:∀ (l:List (Sp α)) (acc:List Int),acc.Pairwise (·< ·)→(startsF acc l).Pairwise (·< ·)
 | [],acc,h=>h
 | s::l,acc,h=>startsF_sorted l _ (insI_sorted s.1 acc h)
theorem starts_sorted (l:List (Sp α)):(startsL l).Pairwise (·< ·):=startsF_sorted l [] List.Pairwise.nil
def wayB (l:List (Sp α)) (to:Int):Nat→Int→Bool
 | 0,x=>decide (x=to)
 | n+1,x=>l.any fun s=>decide (s.1=x)&&wayB l to n s.2.1
theorem way_iff (l:List (Sp α)) (to:Int):∀ (n:Nat) (x:Int),wayB l to n x=true↔Walk l n x to
 | 0,x=>by
   rw [wayB,decide_eq_true_eq]
   constructor
   ·rintro rfl;exact .nil x
   ·intro h;cases h;rfl
 | n+1,x=>by
   rw [wayB,List.any_eq_true]
   constructor
   ·rintro ⟨s,hs,h⟩
    rw [Bool.and_eq_true,decide_eq_true_eq,way_iff l to n] at h;rw [← h.1];exact .cons s n to hs h.2
   ·intro h
    obtain ⟨s,hs,h,rfl⟩:=h;exact ⟨s,hs,by rw [Bool.and_eq_true,decide_eq_true_eq,way_iff l to n];exact ⟨rfl,h⟩⟩
def ringAt (l:List (Sp α)) (n:Nat):Option Int:=(startsL l).find? fun s=>wayB l s n s
def ringN (l:List (Sp α)):Option Nat:=fi (fun n=>(ringAt l (n+1)).isSome) (startsL l).length
def ringPath (l:List (Sp α)) (to:Int):Nat→Int→List (Sp α)
 | 0,_=>[]
 | n+1,x=>match l.find? fun s=>decide (s.1=x)&&wayB l to n s.2.1 with
   | none=>[]
   | some s=>s::ringPath l to n s.2.1
def ringL (l:List (Sp α)):Option (List (Sp α)) :=
 match ringN l with
 | none=>none
 | some n=>match ringAt l (n+1) with
   | none=>none
   | some s=>some (ringPath l s (n+1) s)
theorem path_ok (l:List (Sp α)) (to:Int):∀ (n:Nat) (x:Int),Walk l n x to→chainB (ringPath l to n x) x to∧(ringPath l to n x).length=n∧∀ s∈ringPath l to n x,s∈l
 | 0,x,h=>by cases h;exact ⟨rfl,rfl,fun s hs=>by cases hs⟩
 | n+1,x,h=>by
   rw [ringPath];cases hf:l.find? fun s=>decide (s.1=x)&&wayB l to n s.2.1 with
   | none =>
     exfalso;obtain ⟨s,hs,h,rfl⟩:=h;have:=List.find?_eq_none.1 hf s hs;rw [Bool.and_eq_true,decide_eq_true_eq,way_iff l to n] at this;exact this ⟨rfl,h⟩
   | some s =>
     have h1:=List.find?_some hf;have h2:=List.mem_of_find?_eq_some hf;simp only [Bool.and_eq_true,decide_eq_true_eq,way_iff l to n] at h1;obtain ⟨i1,i2,i3⟩:=path_ok l to n s.2.1 h1.2;refine ⟨⟨h1.1,i1⟩,by simp only [List.length_cons,i2],fun z hz=>?_⟩;rcases List.mem_cons.1 hz with rfl | hz
     ·exact h2
     ·exact i3 z hz
theorem ring_at (l:List (Sp α)) (n:Nat) (s:Int) (h:ringAt l n=some s):s∈startsL l∧Walk l n s s∧∀ y∈startsL l,Walk l n y y→s≤y:=by
 unfold ringAt at h;obtain ⟨h1,h2⟩:=List.find?_eq_some_iff_append.1 h;obtain ⟨p,q,hpq,hno⟩:=h2;refine ⟨by rw [hpq];simp,(way_iff _ _ _ _).1 h1,fun y hy hwy=>?_⟩;rw [hpq] at hy;rcases List.mem_append.1 hy with hy | hy
 ·have:=hno y hy
  rw [(way_iff l y n y).2 hwy] at this;cases this
 ·rcases List.mem_cons.1 hy with rfl | hy
  ·exact Int.le_refl _
  ·have hs:=starts_sorted l
   rw [hpq] at hs;have:=(List.pairwise_append.1 hs).2.1;have:=(List.pairwise_cons.1 this).1 y hy;omega
theorem ring_some (l r:List (Sp α)) (h:ringL l=some r):closedP r∧(∀ s∈r,s∈l)∧(∀ n s,1≤n→n≤(startsL l).length→Walk l n s s→r.length≤n):=by
 unfold ringL at h;cases hn:ringN l with
 | none=>rw [hn] at h;cases h
 | some n =>
   rw [hn] at h;simp only at h;cases ha:ringAt l (n+1) with
   | none=>rw [ha] at h;cases h
   | some s =>
     rw [ha] at h;cases h;obtain ⟨a1,a2,a3⟩:=ring_at l (n+1) s ha;obtain ⟨p1,p2,p3⟩:=path_ok l s (n+1) s a2;refine ⟨?_,p3,fun m y hm hml hw=>?_⟩
     ·cases hr:ringPath l s (n+1) s with
      | nil=>rw [hr] at p2;cases p2
      | cons z r' =>
        rw [hr] at p1;have hz:z.1=s:=p1.1;exact ⟨z,r',rfl,by rw [hz];exact p1⟩
     ·rw [p2]
      have hno:=((fi_some _ _ _).1 hn).2.2;rcases Nat.lt_or_ge (m - 1) n with hh | hh
      ·exfalso
       have:=hno (m - 1) hh;rw [show m - 1+1=m by omega] at this;have hst:y∈startsL l:=(starts_mem l y).2 (by rw [show m=m - 1+1 by omega] at hw;exact hw.start);unfold ringAt at this;rw [Option.isSome_eq_false_iff,Option.isNone_iff_eq_none,List.find?_eq_none] at this;exact this y hst ((way_iff _ _ _ _).2 hw)
      ·omega
end
end Go.Proofs.YthamoeekiglphaaGreatDoor
namespace Go.Proofs.YthamoeekiglphaaGreatDoor
set_option maxRecDepth 100000
set_option linter.unusedVariables false
abbrev Stp:=Sp (List Ed)
def one1 (e:Ed):Stp:=(e.2.1,e.2.2.1,[e])
def two2 (e g:Ed):Stp:=(e.2.1,g.2.2.1,[e,g])
def stepOf (level:Int) (l:List Ed) (e:Ed):List Stp :=
 (if level=1∨level=2∧e.1≠3 then [one1 e] else [])++(if level=2∧e.1≠3 then l.filterMap fun g=>if g.1=3∧g.2.1=e.2.2.1 then some (two2 e g) else none else [])
def stepsL (level:Int) (l:List Ed):List Stp:=l.flatMap (stepOf level l)
theorem steps_one (level:Int) (l:List Ed) (e:Ed) (he:e∈l) (h:level=1∨level=2∧e.1≠3):one1 e∈stepsL level l:=by
 refine List.mem_flatMap.2 ⟨e,he,List.mem_append.2 (.inl ?_)⟩;rw [if_pos h];exact List.mem_singleton.2 rfl
theorem steps_two (l:List Ed) (e g:Ed) (he:e∈l) (hg:g∈l) (h3:e.1≠3) (g3:g.1=3) (hm:g.2.1=e.2.2.1):two2 e g∈stepsL 2 l:=by
 refine List.mem_flatMap.2 ⟨e,he,List.mem_append.2 (.inr ?_)⟩;rw [if_pos ⟨rfl,h3⟩];exact List.mem_filterMap.2 ⟨g,hg,by rw [if_pos ⟨g3,hm⟩]⟩
theorem steps_cases (level:Int) (l:List Ed) (s:Stp) (hs:s∈stepsL level l):(∃ e∈l,(level=1∨level=2∧e.1≠3)∧s=one1 e)∨(level=2∧∃ e∈l,∃ g∈l,e.1≠3∧g.1=3∧g.2.1=e.2.2.1∧s=two2 e g):=by
 obtain ⟨e,he,h⟩:=List.mem_flatMap.1 hs;rcases List.mem_append.1 h with h | h
 ·left
  by_cases hc:level=1∨level=2∧e.1≠3
  ·rw [if_pos hc,List.mem_singleton] at h;exact ⟨e,he,hc,h⟩
  ·rw [if_neg hc] at h;cases h
 ·right
  by_cases hc:level=2∧e.1≠3
  ·rw [if_pos hc] at h
   obtain ⟨g,hg,h⟩:=List.mem_filterMap.1 h
   by_cases h3:g.1=3∧g.2.1=e.2.2.1
   ·rw [if_pos h3] at h;exact ⟨hc.1,e,he,g,hg,hc.2,h3.1,h3.2,(Option.some.inj h).symm⟩
   ·rw [if_neg h3] at h;cases h
  ·rw [if_neg hc] at h;cases h
def relE (level:Int) (x y:Ed):Prop:=x.2.2.1=y.2.1∧¬ (level=2∧x.1=3∧y.1=3)
def chainR (level:Int):List Ed→Ed→Prop
 | [],_=>True
 | [e],f=>relE level e f
 | e::e'::r,f=>relE level e e'∧chainR level (e'::r) f
def cyc (level:Int):List Ed→Prop
 | []=>False
 | e::r=>chainR level (e::r) e
theorem chainR_snoc (level:Int):∀ (r:List Ed) (e f g:Ed),chainR level (r++[e]) f→relE level f g→chainR level (r++[e,f]) g
 | [],e,f,g,h,k=>⟨h,k⟩
 | [a],e,f,g,h,k=>⟨h.1,h.2,k⟩
 | a::b::r,e,f,g,h,k=>⟨h.1,chainR_snoc level (b::r) e f g h.2 k⟩
theorem cyc_turn (level:Int) (e:Ed) (r:List Ed) (h:cyc level (e::r)):cyc level (r++[e]):=by
 match r,h with
 | [],h=>exact h
 | a::r,h =>
   have hc:chainR level (e::a::r) e:=h;show chainR level (a::(r++[e])) a;have h1:relE level e a:=hc.1;have h2:chainR level (a::r) e:=hc.2;rcases List.eq_nil_or_concat r with rfl | ⟨q,z,rfl⟩
   ·exact ⟨h2,h1⟩
   ·have h2':chainR level ((a::q)++[z]) e:=by simpa using h2
    have:=chainR_snoc level (a::q) z e a h2' h1;simpa using this
def wayNI (l:List Ed) (a:Int):Nat→Int→Prop
 | 0,b=>∃ e:Ed,e∈l∧e.1≠3∧e.2.1=a∧b=e.2.2.1
 | n+1,b=>∃ e:Ed,e∈l∧e.1≠3∧wayNI l a n e.2.1∧b=e.2.2.1
def WayN (l:List Ed) (a b:Int):Prop:=∃ n,wayNI l a n b
theorem WayN.one {l:List Ed} {a:Int} (e:Ed) (h1:e∈l) (h2:e.1≠3) (h3:e.2.1=a):WayN l a e.2.2.1:=⟨0,e,h1,h2,h3,rfl⟩
theorem WayN.go {l:List Ed} {a:Int} (e:Ed) (h1:e∈l) (h2:e.1≠3) (h3:WayN l a e.2.1):WayN l a e.2.2.1:=by
 obtain ⟨n,hn⟩:=h3;exact ⟨n+1,e,h1,h2,hn,rfl⟩
theorem WayN.elim {l:List Ed} {a:Int} {motive:(b:Int)→WayN l a b→Prop} (one:∀ (e:Ed) (h1:e∈l) (h2:e.1≠3) (h3:e.2.1=a),motive e.2.2.1 (WayN.one e h1 h2 h3)) (go:∀ (e:Ed) (h1:e∈l) (h2:e.1≠3) (h3:WayN l a e.2.1),motive e.2.1 h3→motive e.2.2.1 (WayN.go e h1 h2 h3)) {b:Int} (h:WayN l a b):motive b h:=by
 obtain ⟨n,hn⟩:=h
 induction n generalizing b with
 | zero =>
   obtain ⟨e,h1,h2,h3,rfl⟩:=hn;exact one e h1 h2 h3
 | succ n ih =>
   obtain ⟨e,h1,h2,h3,rfl⟩:=hn;exact go e h1 h2 ⟨n,h3⟩ (ih h3)
theorem v_wayN (h:List Ev) (key:List UInt8) (n:Nat):∀ m,n < m→m < (versL h key).length→WayN (edgesL h) (tx h (vAt (versL h key) n)) (tx h (vAt (versL h key) m))
 | 0,hnm,hm=>by omega
 | m+1,hnm,hm=>by
   have he:=w_edge h key (ver_key h key _ hm) m hm;rcases Nat.lt_or_ge n m with hh | hh
   ·exact .go _ he (by simp) (v_wayN h key n m hh (by omega))
   ·obtain rfl:n=m:=by omega
    exact .one _ he (by simp) rfl
theorem follow_kinds {h:List Ev} (hw:WF h) (hcl:clean h) (e:Ed) (he:holdsL h e):WayN (edgesL h) e.2.1 e.2.2.1∨(e.1=3∧∃ g∈edgesL h,g.1=3∧g.2.1=e.2.1∧(g.2.2.1=e.2.2.1∨WayN (edgesL h) g.2.2.1 e.2.2.1)):=by
 obtain ⟨a,b,i,j,ca,cb,hne,hI,hJ,hi,hj,hkey,ti,tj,hcase⟩:=he
 have vers:∀ (t:Int) (c q:Nat),commL h t=some c→q < h.length→(ev h q).1=3→tx h q=t→∃ n,n < (versL h (ev h q).2.2.1).length∧tx h (vAt (versL h (ev h q).2.2.1) n)=t∧srcAt h (ev h q).2.2.1 n=c:=by
  intro t c q hc hq h3 ht;obtain ⟨c1,c2⟩:=(commL_some _ _ _).1 hc;obtain ⟨f',e',g0,g1,g2,g3,g4,g5,g6⟩:=wf_life hw hq;have ht':(ev h q).2.1=t:=ht;rw [ht',c1] at g1;cases g1;have hqe:q≠c:=fun hh=>by rw [hh,c2] at h3;cases h3
  cases hl:lastN h t (ev h q).2.2.1 c with
  | none=>exact absurd ⟨h3,ht,rfl⟩ ((lastN_none _ _ _ _).1 hl q (by omega))
  | some w =>
    obtain ⟨n,n1,n2,n3⟩:=ver_index h (ev h q).2.2.1 t c w hc hl;refine ⟨n,n1,?_,n3⟩;rw [n2];exact ((lastN_some _ _ _ _ _).1 hl).2.1.2.1
 have along:∀ (key:List UInt8) (n m:Nat),n < (versL h key).length→m < (versL h key).length→srcAt h key n < srcAt h key m→WayN (edgesL h) (tx h (vAt (versL h key) n)) (tx h (vAt (versL h key) m)):=fun key n m hn hm hlt=>v_wayN h key n m (src_mono h key n m hn hm hlt) hm
 rcases hcase with ⟨_,hi3,hj3,hab⟩ | ⟨_,hi3,hj2,hv⟩ | ⟨he3,hi2,hj3,hv⟩
 ·left
  obtain ⟨n,n1,n2,n3⟩:=vers e.2.1 a i ca hi hi3 ti;obtain ⟨m,m1,m2,m3⟩:=vers e.2.2.1 b j cb hj hj3 tj;rw [← hkey] at m1 m2 m3;have:=along _ n m n1 m1 (by omega);rw [n2,m2] at this;exact this
 ·left
  obtain ⟨f',e',g0,g1,g2,g3,g4,g5,g6⟩:=wf_life hw hj;have tj':(ev h j).2.1=e.2.2.1:=tj
  have hjb:j < b:=by
   have:=((commL_some _ _ _).1 cb).1;rw [tj',this] at g1;cases g1;have:j≠b:=fun hh=>by have:=((commL_some _ _ _).1 cb).2;rw [← hh,hj2] at this;cases this
   omega
  have hcj:countsL h j:=⟨hj,hj2,b,by rw [tj'];exact cb,hjb⟩
  have hln:lastN h (ev h j).2.1 (ev h j).2.2.1 j=none:=by
   cases hl:lastN h (ev h j).2.1 (ev h j).2.2.1 j with
   | none=>rfl
   | some k =>
     exfalso;have hk:=clean_own hcl hcj hl;obtain ⟨l1,l2,_⟩:=(lastN_some _ _ _ _ _).1 hl;have:k=i:=wr_one hw (by omega) hi l2.1 hi3 (by rw [hk,hv]);apply hne;rw [← ti,← tj,← this];exact l2.2.1
  have hwr:writerL h (ev h j).2.2.1 (ev h j).2.2.2=some i:=by
   have:=writer_is hw hi hi3;rw [hkey,hv] at this;exact this
  have hvne:(ev h j).2.2.2≠[]:=by rw [← hv];exact wr_nonempty hw hi hi3
  obtain ⟨o1,c,o2,o3⟩:=clean_other hcl hcj hln hvne hwr;obtain ⟨n,n1,n2,n3⟩:=ver_index h (ev h j).2.2.1 (ev h i).2.1 c i o2 o3
  have hva:verAt h (versL h (ev h j).2.2.1) j=some n:=by
   rw [verAt_some];refine ⟨n1,by rw [n2,hv],fun q hq hh=>?_⟩;obtain ⟨r1,r2,r3,r4,r5⟩:=ver_facts h (ev h j).2.2.1 q (by omega);have:vAt (versL h (ev h j).2.2.1) q=i:=wr_one hw (by omega) hi r4 hi3 (by rw [hh,hv]);exact tx_ne h (ev h j).2.2.1 q n hq n1 (by rw [this,n2])
  have hed:=r_edges h j hcj hln (2,tx h i,tx h j,(i:Int),(j:Int)) (by
   unfold rdEdges;rw [hva];refine List.mem_append.2 (.inl ?_);unfold rEdge;rw [n2,if_neg (show ¬ tx h i=tx h j from o1)];exact List.mem_singleton.2 rfl)
  have:=WayN.one (a:=tx h i) _ hed (by simp) rfl;rw [← ti,← tj];exact this
 ·obtain ⟨f',e',g0,g1,g2,g3,g4,g5,g6⟩:=wf_life hw hi
  have ti':(ev h i).2.1=e.2.1:=ti
  have hia:i < a:=by
   have:=((commL_some _ _ _).1 ca).1;rw [ti',this] at g1;cases g1;have:i≠a:=fun hh=>by have:=((commL_some _ _ _).1 ca).2;rw [← hh,hi2] at this;cases this
   omega
  have hci:countsL h i:=⟨hi,hi2,a,by rw [ti'];exact ca,hia⟩;obtain ⟨m,m1,m2,m3⟩:=vers e.2.2.1 b j cb hj hj3 tj;rw [← hkey] at m1 m2 m3
  have over:∀ n,n≤m→(∀ x:Ed,x∈oEdge h (versL h (ev h i).2.2.1) i n→x∈rdEdges h (versL h (ev h i).2.2.1) i)→lastN h (ev h i).2.1 (ev h i).2.2.1 i=none→WayN (edgesL h) e.2.1 e.2.2.1∨(e.1=3∧∃ g∈edgesL h,g.1=3∧g.2.1=e.2.1∧(g.2.2.1=e.2.2.1∨WayN (edgesL h) g.2.2.1 e.2.2.1)):=by
   intro n hnm hsub hln
   by_cases ht:tx h (vAt (versL h (ev h i).2.2.1) n)=tx h i
   ·left
    rcases Nat.lt_or_ge n m with hh | hh
    ·have:=v_wayN h (ev h i).2.2.1 n m hh m1
     rw [ht,ti,m2] at this;exact this
    ·exfalso
     obtain rfl:n=m:=by omega
     rw [m2] at ht;exact hne (by rw [← ti];exact ht.symm)
   ·right
    have hed:=r_edges h i hci hln (3,tx h i,tx h (vAt (versL h (ev h i).2.2.1) n),(i:Int),(vAt (versL h (ev h i).2.2.1) n:Int)) (hsub _ (by
     unfold oEdge;rw [if_pos ⟨by omega,ht⟩];exact List.mem_singleton.2 rfl))
    refine ⟨he3,_,hed,rfl,ti,?_⟩;rcases Nat.lt_or_ge n m with hh | hh
    ·right
     have:=v_wayN h (ev h i).2.2.1 n m hh m1;rw [m2] at this;exact this
    ·left
     obtain rfl:n=m:=by omega
     exact m2
  cases hl:lastN h (ev h i).2.1 (ev h i).2.2.1 i with
  | some k =>
    have hk:=clean_own hcl hci hl;obtain ⟨l1,l2,_⟩:=(lastN_some _ _ _ _ _).1 hl;rcases hv with hv | ⟨w,c,w1,w2,w3,w4⟩
    ·exact absurd (by rw [hk,hv]) (wr_nonempty hw (by omega) l2.1)
    ·left
     obtain ⟨p1,p2,_⟩:=(writerL_some _ _ _ _).1 w1;have hwk:w=k:=wr_one hw p1 (by omega) p2.1 l2.1 (by rw [p2.2.2,hk]);have htw:tx h w=e.2.1:=by rw [hwk];exact l2.2.1.trans ti
     rw [htw,ca] at w3;cases w3;obtain ⟨n,n1,n2,n3⟩:=vers e.2.1 a k ca (by omega) l2.1 (by rw [← hwk];exact htw);rw [l2.2.2] at n1 n2 n3;have:=along _ n m n1 m1 (by omega);rw [n2,m2] at this;exact this
  | none =>
    by_cases hev:(ev h i).2.2.2=[]
    ·have hva:verAt h (versL h (ev h i).2.2.1) i=none:=by
      rw [verAt_none];intro q hq hh;obtain ⟨r1,r2,r3,r4,r5⟩:=ver_facts h (ev h i).2.2.1 q hq;exact wr_nonempty hw (by omega) r4 (by rw [hh,hev])
     exact over 0 (by omega) (fun x hx=>by unfold rdEdges;rw [hva];simp only;rw [if_pos hev];exact hx) hl
    ·rcases hv with hv | ⟨w,c,w1,w2,w3,w4⟩
     ·exact absurd hv hev
     ·obtain ⟨o1,c',o2,o3⟩:=clean_other hcl hci hl hev w1
      have w3':commL h (ev h w).2.1=some c:=w3;rw [w3'] at o2;cases o2;obtain ⟨p1,p2,_⟩:=(writerL_some _ _ _ _).1 w1;obtain ⟨n,n1,n2,n3⟩:=ver_index h (ev h i).2.2.1 (ev h w).2.1 c w w3' o3
      have hva:verAt h (versL h (ev h i).2.2.1) i=some n:=by
       rw [verAt_some];refine ⟨n1,by rw [n2,p2.2.2],fun q hq hh=>?_⟩;obtain ⟨r1,r2,r3,r4,r5⟩:=ver_facts h (ev h i).2.2.1 q (by omega);have:vAt (versL h (ev h i).2.2.1) q=w:=wr_one hw (by omega) p1 r4 p2.1 (by rw [hh,p2.2.2]);exact tx_ne h (ev h i).2.2.1 q n hq n1 (by rw [this,n2])
      have hnm:n < m:=src_mono h _ n m n1 m1 (by omega);exact over (n+1) (by omega) (fun x hx=>by unfold rdEdges;rw [hva];exact List.mem_append.2 (.inr hx)) hl
def atP (l:List Ed) (a x:Int):Prop:=∃ n,1≤n∧Walk (stepsL 2 l) n a x
def atQ (l:List Ed) (a x:Int):Prop:=∃ e∈l,e.1≠3∧e.2.2.1=x∧∃ n,Walk (stepsL 2 l) n a e.2.1
theorem walk_one (l:List Ed) (s:Stp) (hs:s∈stepsL 2 l) {n:Nat} {a x y:Int} (hw:Walk (stepsL 2 l) n a x) (h1:s.1=x) (h2:s.2.1=y):Walk (stepsL 2 l) (n+1) a y:=by
 have:Walk (stepsL 2 l) 1 x y:=by rw [← h1,← h2];exact .cons s 0 _ hs (.nil _)
 exact hw.append this
theorem q_p {l:List Ed} {a x:Int} (h:atQ l a x):atP l a x:=by
 obtain ⟨e,he,h3,hx,n,hw⟩:=h;exact ⟨n+1,by omega,walk_one l (one1 e) (steps_one 2 l e he (.inr ⟨rfl,h3⟩)) hw rfl hx⟩
theorem q_over {l:List Ed} {a x:Int} (h:atQ l a x) (g:Ed) (hg:g∈l) (g3:g.1=3) (hx:g.2.1=x):atP l a g.2.2.1:=by
 obtain ⟨e,he,h3,hx',n,hw⟩:=h;exact ⟨n+1,by omega,walk_one l (two2 e g) (steps_two l e g he hg h3 g3 (by rw [hx,hx'])) hw rfl rfl⟩
theorem walk_wayN {l:List Ed} {a x y:Int} {n:Nat} (hw:Walk (stepsL 2 l) n a x) (h:WayN l x y):atQ l a y:=by
 induction h using WayN.elim with
 | one e he h3 hx=>exact ⟨e,he,h3,rfl,n,by rw [hx];exact hw⟩
 | go e he h3 _ ih =>
   obtain ⟨m,_,hm⟩:=q_p ih;exact ⟨e,he,h3,rfl,m,hm⟩
theorem round_snap {h:List Ev} (hw:WF h) (hcl:clean h):∀ (r:List Ed) (e f:Ed) (a:Int),(∀ x∈e::r,holdsL h x)→chainR 2 (e::r) f→e.2.1=a∨True→(e.1≠3→∃ n,Walk (stepsL 2 (edgesL h)) n a e.2.1)→(e.1=3→atQ (edgesL h) a e.2.1)→(f.1≠3→atP (edgesL h) a f.2.1):=by
 intro r
 induction r with
 | nil =>
   intro e f a hh hc _ hn h3 hf;have he:=hh e (List.mem_cons_self ..);have hr:e.2.2.1=f.2.1:=hc.1;rw [← hr]
   by_cases e3:e.1=3
   ·rcases follow_kinds hw hcl e he with hw1 | ⟨_,g,hg,g3,gf,hgo⟩
    ·obtain ⟨n,_,hn'⟩:=q_p (h3 e3)
     exact q_p (walk_wayN hn' hw1)
    ·have hp:=q_over (h3 e3) g hg g3 gf
     rcases hgo with hgo | hgo
     ·rw [← hgo];exact hp
     ·obtain ⟨n,_,hn'⟩:=hp
      exact q_p (walk_wayN hn' hgo)
   ·obtain ⟨n,hn'⟩:=hn e3
    rcases follow_kinds hw hcl e he with hw1 | ⟨e3',_⟩
    ·exact q_p (walk_wayN hn' hw1)
    ·exact absurd e3' e3
 | cons e' r ih =>
   intro e f a hh hc _ hn h3 hf;have he:=hh e (List.mem_cons_self ..);have hr:e.2.2.1=e'.2.1:=hc.1.1;have hno:¬ (e.1=3∧e'.1=3):=fun hx=>hc.1.2 ⟨rfl,hx.1,hx.2⟩
   refine ih e' f a (fun x hx=>hh x (List.mem_cons_of_mem _ hx)) hc.2 (.inr trivial) (fun e3'=>?_) (fun e3'=>?_) hf
   ·rw [← hr]
    by_cases e3:e.1=3
    ·rcases follow_kinds hw hcl e he with hw1 | ⟨_,g,hg,g3,gf,hgo⟩
     ·obtain ⟨n,_,hn'⟩:=q_p (h3 e3)
      obtain ⟨m,_,hm⟩:=q_p (walk_wayN hn' hw1);exact ⟨m,hm⟩
     ·have hp:=q_over (h3 e3) g hg g3 gf
      rcases hgo with hgo | hgo
      ·rw [← hgo];obtain ⟨m,_,hm⟩:=hp;exact ⟨m,hm⟩
      ·obtain ⟨n,_,hn'⟩:=hp
       obtain ⟨m,_,hm⟩:=q_p (walk_wayN hn' hgo);exact ⟨m,hm⟩
    ·obtain ⟨n,hn'⟩:=hn e3
     rcases follow_kinds hw hcl e he with hw1 | ⟨e3'',_⟩
     ·obtain ⟨m,_,hm⟩:=q_p (walk_wayN hn' hw1);exact ⟨m,hm⟩
     ·exact absurd e3'' e3
   ·rw [← hr]
    have e3:e.1≠3:=fun hx=>hno ⟨hx,e3'⟩
    obtain ⟨n,hn'⟩:=hn e3;rcases follow_kinds hw hcl e he with hw1 | ⟨e3'',_⟩
    ·exact walk_wayN hn' hw1
    ·exact absurd e3'' e3
theorem way_walk {l:List Ed} {a b:Int} (h:Way l a b):∃ n,Walk (stepsL 1 l) n a b:=by
 induction h using Way.elim with
 | here=>exact ⟨0,.nil _⟩
 | go e he _ ih =>
   obtain ⟨n,hn⟩:=ih;have:Walk (stepsL 1 l) 1 e.2.1 e.2.2.1:=.cons (one1 e) 0 _ (steps_one 1 l e he (.inl rfl)) (.nil _);exact ⟨n+1,hn.append this⟩
theorem round_serial {h:List Ev} (hw:WF h) (hcl:clean h):∀ (r:List Ed) (e f:Ed) (a:Int),(∀ x∈e::r,holdsL h x)→chainR 1 (e::r) f→(∃ n,Walk (stepsL 1 (edgesL h)) n a e.2.1)→∃ n,1≤n∧Walk (stepsL 1 (edgesL h)) n a f.2.1:=by
 have one:∀ (e:Ed) (a:Int),holdsL h e→(∃ n,Walk (stepsL 1 (edgesL h)) n a e.2.1)→∃ n,1≤n∧Walk (stepsL 1 (edgesL h)) n a e.2.2.1:=by
  intro e a he ⟨n,hn⟩;obtain ⟨m,hm⟩:=way_walk (edges_follow hw hcl e he);have hne:e.2.1≠e.2.2.1:=by obtain ⟨_,_,_,_,_,_,hne,_⟩:=he;exact hne
  have hm1:1≤m:=by
   rcases Nat.eq_zero_or_pos m with hz | hz
   ·exfalso
    rw [hz] at hm;apply hne;generalize e.2.1=x at hm;generalize e.2.2.1=y at hm;cases hm;rfl
   ·exact hz
  exact ⟨n+m,by omega,hn.append hm⟩
 intro r
 induction r with
 | nil =>
   intro e f a hh hc hn;have hr:e.2.2.1=f.2.1:=hc.1;rw [← hr];exact one e a (hh e (List.mem_cons_self ..)) hn
 | cons e' r ih =>
   intro e f a hh hc hn;have hr:e.2.2.1=e'.2.1:=hc.1.1;obtain ⟨n,_,hn'⟩:=one e a (hh e (List.mem_cons_self ..)) hn;exact ih e' f a (fun x hx=>hh x (List.mem_cons_of_mem _ hx)) hc.2 ⟨n,by rw [← hr];exact hn'⟩
theorem round_ring {h:List Ev} (hw:WF h) (hcl:clean h) (level:Int) (hlev:level=1∨level=2) (l:List Ed) (hc:cyc level l) (hh:∀ x∈l,holdsL h x):∃ n a,1≤n∧Walk (stepsL level (edgesL h)) n a a:=by
 match l,hc with
 | e::r,hc =>
   rcases hlev with rfl | rfl
   ·obtain ⟨n,h1,h2⟩:=round_serial hw hcl r e e e.2.1 hh hc ⟨0,.nil _⟩
    exact ⟨n,_,h1,h2⟩
   ·by_cases e3:e.1=3
    ·match r,hc,hh with
     | [],hc,hh=>exact absurd ⟨rfl,e3,e3⟩ hc.2
     | e'::r,hc,hh =>
       have hno:e'.1≠3:=fun hx=>hc.1.2 ⟨rfl,e3,hx⟩
       have ht:=cyc_turn 2 e (e'::r) hc
       obtain ⟨n,h1,h2⟩:=round_snap hw hcl (r++[e]) e' e' e'.2.1 (fun x hx=>hh x (by
        have:x∈e'::r++[e]:=hx;rcases List.mem_append.1 this with hx | hx
        ·exact List.mem_cons_of_mem _ hx
        ·rw [List.mem_singleton] at hx;rw [hx];exact List.mem_cons_self ..)) ht (.inr trivial) (fun _=>⟨0,.nil _⟩) (fun hx=>absurd hx hno) hno
       exact ⟨n,_,h1,h2⟩
    ·obtain ⟨n,h1,h2⟩:=round_snap hw hcl r e e e.2.1 hh hc (.inr trivial) (fun _=>⟨0,.nil _⟩) (fun hx=>absurd hx e3) e3
     exact ⟨n,_,h1,h2⟩
end Go.Proofs.YthamoeekiglphaaGreatDoor
namespace Go.Proofs.YthamoeekiglphaaGreatDoor
set_option maxRecDepth 100000
open Go.RowKit
set_option linter.unusedVariables false
section
variable {P:Program} {ops:Array Oper} {md:Region.Mode} {Q:Exit→Act→World→Prop}
def wpAnyC (C:World→Prop) (d:Nat) (P:Program) (md:Region.Mode) (ops:Array Oper) (Q:Exit→Act→World→Prop):Nat→Array Bool→Act→World→Prop
 | 0,listed,a,w=>wpAny P md ops Q 0 listed a w∧(listed.getD d false=false→C w)
 | f+1,listed,a,w=>(listed.getD d false=true∧wpAny P md ops Q (f+1) listed a w) ∨
     (listed.getD d false=false∧C w∧(Region.ready md ops listed=[]→Q .normal a w)∧∀ i∈Region.ready md ops listed,wpOp P ops Q i (wpAnyC C d P md ops Q f (listed.setIfInBounds i true)) a w)
theorem any_of_C {C:World→Prop} (d:Nat):∀ (f:Nat) (listed:Array Bool) (a:Act) (w:World),wpAnyC C d P md ops Q f listed a w→wpAny P md ops Q f listed a w
 | 0,_,_,_,h=>h.1
 | f+1,listed,a,w,h=>by
   rcases h with h | ⟨_,_,h1,h2⟩
   ·exact h.2
   ·exact ⟨h1,fun i hi=>wpOp_mono (fun a' w' h'=>any_of_C d f _ a' w' h') (h2 i hi)⟩
def YieldsC (C:World→Prop) (P:Program) (ops:Array Oper) (o:Oper) (v:Value) (a:Act):Prop :=
 (Region.wanted o (yielded ops a.tmps)=true∧∀ w,C w→(execOp a.eval o).run P w=.ok (.value v) w)∨(Region.wanted o (yielded ops a.tmps)=false∧v=undef)
theorem YieldsC.op {C:World→Prop} {i:Nat} {o:Oper} {v:Value} {a:Act} (hi:ops[i]?=some o) (hy:YieldsC C P ops o v a) {K:Act→World→Prop} {w:World} (hC:C w) (h:K (a.put o.dst v) w):wpOp P ops Q i K a w:=by
 unfold wpOp;simp only [hi];rcases hy with ⟨hw,hv⟩ | ⟨hw,rfl⟩
 ·simp only [hw,if_true,Oper.wp,hv w hC,Oper.upon];exact .inl h
 ·simp only [hw,Bool.false_eq_true,if_false];exact h
theorem YieldsC.same {C:World→Prop} {o:Oper} {v:Value} {a a':Act} (hy:YieldsC C P ops o v a) (he:execOp a'.eval o=execOp a.eval o) (hw:Region.wanted o (yielded ops a'.tmps)=Region.wanted o (yielded ops a.tmps)):YieldsC C P ops o v a':=by
 unfold YieldsC at *;rw [he,hw];exact hy
theorem wpOp_putC {C:World→Prop} {j:Nat} {oi oj:Oper} {v:Value} (hj:ops[j]?=some oj) (hap:oi.apart ops oj=true)
 (hsi:∀ cs b,oi.op≠.select cs b) (hsj:∀ cs b,oj.op≠.select cs b)
 (hQ:∀ c a w,Q (.panic c) (a.put oi.dst v) w→Q (.panic c) a w) {K:Act→World→Prop} {a:Act} {w:World}
 (hy:YieldsC C P ops oi v a) (h:wpOp P ops Q j K (a.put oi.dst v) w) :
 wpOp P ops Q j (fun a' w'=>YieldsC C P ops oi v a'∧K (a'.put oi.dst v) w') a w:=by
 obtain ⟨h1,h2,h3⟩:=Oper.apart_spec hap;have keep:∀ (a:Act),YieldsC C P ops oi v a→∀ u,YieldsC C P ops oi v (a.put oj.dst u):=fun a hy u=>hy.same (execOp_put oi hsi a oj.dst u h3) (wanted_put oi a oj.dst u h3)
 have keepD:∀ d,YieldsC C P ops oi v { a with defers:=d::a.defers }:=fun d=>hy.same rfl rfl
 unfold wpOp at *;simp only [hj] at *;rw [wanted_put oj a oi.dst v h1] at h
 by_cases hw:Region.wanted oj (yielded ops a.tmps)=true
 ·rw [if_pos hw] at h ⊢
  rcases h with h | ⟨hasks,hlets⟩
  case inr=>exact .inr ⟨by unfold Oper.asks at *;rw [execOp_put oj hsj a oi.dst v h1] at hasks;exact hasks,hlets⟩
  refine .inl ?_;unfold Oper.wp at *;rw [execOp_put oj hsj a oi.dst v h1] at h;generalize (execOp a.eval oj).run P w=r at *;cases r with
  | ok n w' =>
    cases n<;>simp only [Oper.upon] at h ⊢
    case value u=>exact ⟨keep a hy u,by rw [← Act.put_comm a v u h2];exact h⟩
    case skip=>exact ⟨keep a hy _,by rw [← Act.put_comm a v undef h2];exact h⟩
    case defer d =>
     refine ⟨keep _ (keepD d) _,?_⟩;rw [← Act.put_comm _ v undef h2,← Act.put_defers];exact h
    case enter f args =>
     refine Calls.mono h fun e w'' he=>?_
     cases e with
     | returned u=>exact ⟨keep a hy u,by rw [← Act.put_comm a v u h2];exact he⟩
     | panicked c=>exact hQ _ _ _ he
     | outgrown=>exact he
    case row row args=>exact Rows.mono h fun u w'' he=>⟨keep a hy u,by rw [← Act.put_comm a v u h2];exact he⟩
  | halt x w' =>
    cases x<;>simp only [Oper.upon] at h ⊢
    case panic u=>exact hQ _ _ _ h
 ·rw [if_neg hw] at h ⊢
  exact ⟨keep a hy _,by rw [← Act.put_comm a v undef h2];exact h⟩
theorem firstC {C:World→Prop} {d i:Nat} {oi:Oper} {v:Value} (hi:ops[i]?=some oi) (hsel:∀ (j:Nat) (o:Oper) cs b,ops[j]?=some o→o.op≠.select cs b)
 (hdw:Region.waitsFor md ops d i=true) (hQ:∀ c a w,Q (.panic c) (a.put oi.dst v) w→Q (.panic c) a w) :
 ∀ (f:Nat) (listed:Array Bool) (a:Act) (w:World),listed.getD d false=false →
   (∀ j oj,ops[j]?=some oj→j≠i→listed.getD j true=false→(∀ e∈oj.after,Region.binds md e=true→e.on≠i)→oi.apart ops oj=true) →
   i∈Region.ready md ops listed→YieldsC C P ops oi v a →
   wpAnyC C d P md ops Q f (listed.setIfInBounds i true) (a.put oi.dst v) w→wpAnyC C d P md ops Q (f+1) listed a w:=by
 have hnd:∀ (listed:Array Bool) j,i∈Region.ready md ops listed→j∈Region.ready md ops listed→j≠d:=fun listed j hr hj hjd=>by
  subst hjd;obtain ⟨o',ho',e,he,hb,hon⟩:=Region.waitsFor_spec hdw;obtain ⟨_,oj,hoj,hall⟩:=mem_ready.1 hj;obtain rfl:o'=oj:=Option.some.inj (ho'.symm.trans hoj);have h4:=hall e he hb;rw [hon,getD_both (mem_ready.1 hr).1] at h4;cases h4
 intro f
 induction f with
 | zero =>
   intro listed a w hdl _ hr hy H;have hid:i≠d:=hnd listed i hr hr;refine .inr ⟨hdl,H.2 (by rw [getD_set_ne false hid];exact hdl),fun h=>(by rw [h] at hr;cases hr),fun j hj=>?_⟩
   by_cases hji:j=i
   ·subst hji;exact hy.op hi (H.2 (by rw [getD_set_ne false hid];exact hdl)) H
   ·have:=ready_mono hj hji
    rw [H.1.1] at this;cases this
 | succ f ih =>
   intro listed a w hdl hfree hr hy H;have hid:i≠d:=hnd listed i hr hr;rcases H with H | H
   ·rw [getD_set_ne false hid,hdl] at H;cases H.1
   ·obtain ⟨hd1,hC,hn,H⟩:=H
    refine .inr ⟨hdl,hC,fun h=>(by rw [h] at hr;cases hr),fun j hj=>?_⟩
    by_cases hji:j=i
    ·subst hji;exact hy.op hi hC (.inr ⟨hd1,hC,hn,H⟩)
    ·have h1:=H j (ready_mono hj hji)
     obtain ⟨hjun,oj,hoj,hall⟩:=mem_ready.1 hj
     have hnot:∀ e∈oj.after,Region.binds md e=true→e.on≠i:=fun e he hb heq=>by
      have h1:=hall e he hb;rw [heq,getD_both (mem_ready.1 hr).1] at h1;cases h1
     have h2:=wpOp_putC hoj (hfree j oj hoj hji hjun hnot) (fun cs b=>hsel i oi cs b hi) (fun cs b=>hsel j oj cs b hoj) hQ hy h1;refine wpOp_mono (fun a' w' h3=>ih (listed.setIfInBounds j true) a' w' (by rw [getD_set_ne false (hnd listed j hr hj)];exact hdl) (fun k ok hk hki hku hno=>?_) (ready_mono hr (Ne.symm hji)) h3.1 ?_) h2
     ·refine hfree k ok hk hki ?_ hno
      by_cases hjk:j=k
      ·subst hjk;exact hjun
      ·rw [getD_set_ne true hjk] at hku;exact hku
     ·rw [Array.setIfInBounds_comm _ _ hji]
      exact h3.2
theorem takeC {C:World→Prop} {d i:Nat} {oi:Oper} {v:Value} {f:Nat} {listed:Array Bool} {a:Act} {w:World} (hi:ops[i]?=some oi)
 (hs:Region.noSelect ops=true) (hf:Region.free md ops listed i=true) (hr:(Region.ready md ops listed).contains i=true) (hdw:Region.waitsFor md ops d i=true) (hdl:listed.getD d false=false)
 (hQ:∀ c a w,Q (.panic c) (a.put oi.dst v) w→Q (.panic c) a w) (hy:YieldsC C P ops oi v a)
 (h:wpAnyC C d P md ops Q f (listed.setIfInBounds i true) (a.put oi.dst v) w):wpAnyC C d P md ops Q (f+1) listed a w :=
 firstC hi (Region.noSelect_spec hs) hdw hQ f listed a w hdl (Region.free_spec hi hf) (by simpa using hr) hy h
theorem wpOp_of_list {i:Nat} {o:Oper} {K:Act→World→Prop} {a:Act} {w:World} (ho:ops[i]?=some o) (h:wpList P ops (Exit.then K Q) [o] a w):wpOp P ops Q i K a w:=by
 unfold wpOp;simp only [ho];simp only [wpList] at h
 by_cases hw:Region.wanted o (yielded ops a.tmps)=true
 ·rw [if_pos hw] at h ⊢
  rcases h with h | ⟨h1,a0,w0,h2⟩
  ·refine .inl ?_
   unfold Oper.wp at *;generalize (execOp a.eval o).run P w=r at *;cases r with
   | ok n w' =>
     cases n<;>simp only [Oper.upon] at h ⊢
     case value u=>exact h
     case skip=>exact h
     case defer d=>exact h
     case enter f args =>
      refine Calls.mono h fun e w'' he=>?_
      cases e with
      | returned u=>exact he
      | panicked c=>exact he
      | outgrown=>exact he
     case row row args=>exact h
   | halt x w' =>
     cases x<;>simp only [Oper.upon] at h ⊢
     case panic u=>exact h
  ·exact .inr ⟨h1,a0,w0,h2⟩
 ·rw [if_neg hw] at h ⊢
  exact h
theorem consC {C:World→Prop} {d i:Nat} {o:Oper} {f:Nat} {listed:Array Bool} {a:Act} {w:World} (hr:Region.ready md ops listed=[i]) (hdl:listed.getD d false=false) (hC:C w) (ho:ops[i]?=some o)
 (h:∀ K:Act→World→Prop,(∀ a w,wpAnyC C d P md ops Q f (listed.setIfInBounds i true) a w→K a w)→wpList P ops (Exit.then K Q) [o] a w):wpAnyC C d P md ops Q (f+1) listed a w:=by
 refine .inr ⟨hdl,hC,fun h0=>(by rw [hr] at h0;cases h0),fun j hj=>?_⟩;rw [hr] at hj;obtain rfl:j=i:=by simpa using hj
 exact wpOp_of_list ho (h _ fun _ _ h=>h)
theorem lastC {C:World→Prop} {d:Nat} {f:Nat} {listed:Array Bool} {a:Act} {w:World} (hr:Region.ready md ops listed=[d]) (hdl:listed.getD d false=false) (hC:C w) (hlt:d < listed.size)
 (h:wpAny P md ops Q (f+1) listed a w):wpAnyC C d P md ops Q (f+1) listed a w:=by
 refine .inr ⟨hdl,hC,h.1,fun j hj=>?_⟩;have hj':=hj;rw [hr] at hj';obtain rfl:j=d:=by simpa using hj'
 refine wpOp_mono (fun a' w' h'=>?_) (h.2 j hj);have hd:(listed.setIfInBounds j true).getD j false=true:=by simp [hlt]
 cases f with
 | zero=>exact ⟨h',fun h0=>by rw [hd] at h0;cases h0⟩
 | succ f=>exact .inl ⟨hd,h'⟩
theorem rowsIn_of {l n:Nat} {row:String} {args:Array Value} {w:World} {R:Value→World→Prop} (h:Rows P row args w R):RowsIn (Fence.wide.inRound l) n P row args w R :=
 fun c cs _=>let ⟨v,w',r,s⟩:=h c cs;⟨v,w',r,stepsIn_wide.2 s⟩
def noDefer (ops:Array Oper):Bool:=ops.all fun o=>match o.op with | .defer _=>false | _=>true
theorem noDefer_spec (h:noDefer ops=true) (j:Nat) (o:Oper) (ho:ops[j]?=some o):∀ c,o.op≠.defer c:=by
 intro c heq;have:=Array.all_eq_true_iff_forall_mem.1 h o (Array.mem_of_getElem? ho);simp [heq] at this
theorem opIn_of {l n:Nat} {o:Oper} {a:Act} {w:World} {K:Act→World→Prop} (hnd:∀ c,o.op≠.defer c) (h:o.wp P a w K Q):o.wpIn (Fence.wide.inRound l) n P a w K Q:=by
 unfold Oper.wpIn;refine ⟨fun _ _=>trivial,?_⟩;rw [show (Fence.wide.inRound l).round=some l from rfl,Oper.semAt_some l _ o hnd];unfold Oper.wp at h;generalize (execOp a.eval o).run P w=r at *;cases r with
 | ok n w' =>
   cases n<;>simp only [Oper.upon,Oper.uponIn] at h ⊢
   case value u=>exact h
   case skip=>exact h
   case defer d=>exact h
   case enter f args=>exact ⟨fun h0=>(by cases h0),CallsIn.inRound l (callsIn_wide.2 h)⟩
   case row row args=>exact ⟨fun h0=>(by cases h0),rowsIn_of h⟩
 | halt x w' =>
   cases x<;>simp only [Oper.upon,Oper.uponIn] at h ⊢
   case panic u=>exact h
theorem anyIn_of {l n:Nat} (hlo:¬ LetsOut Q) (hnd:noDefer ops=true):∀ (f:Nat) (listed:Array Bool) (a:Act) (w:World),wpAny P md ops Q f listed a w→wpAnyIn (Fence.wide.inRound l) n P md ops Q f listed a w
 | 0,_,_,_,h=>h
 | f+1,listed,a,w,h=>by
   refine ⟨h.1,fun i hi=>?_⟩;have h1:=h.2 i hi;unfold wpOp at h1;unfold wpOpIn;cases ho:ops[i]? with
   | none=>simp only [ho] at h1 ⊢;exact anyIn_of hlo hnd f _ _ _ h1
   | some o =>
     simp only [ho] at h1 ⊢
     by_cases hw:Region.wanted o (yielded ops a.tmps)=true
     ·rw [if_pos hw] at h1 ⊢
      rcases h1 with h1 | h1
      ·exact Oper.wpIn_mono (fun a' w' h'=>anyIn_of hlo hnd f _ a' w' h') (opIn_of (noDefer_spec hnd i o ho) h1)
      ·exact absurd h1.2 hlo
     ·rw [if_neg hw] at h1 ⊢
      exact ⟨fun _ _=>trivial,anyIn_of hlo hnd f _ _ _ h1⟩
theorem regionIn_any {l n id:Nat} {a:Act} {w:World} (hm:P.follows .mixedOrders=true) (hlo:¬ LetsOut Q) (hnd:noDefer ops=true)
 (h:wpAny P .any ops Q ops.size (Array.replicate ops.size false) a w.drew):(Code.region id ops true).wpIn (Fence.wide.inRound l) n P Q a w :=
 wpIn_region_any hm (anyIn_of hlo hnd _ _ _ _ h)
end
end Go.Proofs.YthamoeekiglphaaGreatDoor
namespace Go.Proofs.YthamoeekiglphaaGreatDoor
set_option maxRecDepth 100000
open Go.RowKit Go.Shelf
set_option linter.unusedVariables false
theorem cell_al {W:World} {a:Addr} {v:Value} (o:Obj) (h:W.cell? a=some v):(W.alloc o).cell? a=some v:=cell_kept h (World.grownBy_alloc W o none) (fun r e=>by cases e)
theorem owns_low {w:World} {B B' e k n:Nat} {v:Value} {xs:List Value} (h:w.ownsRow B e k v n xs) (hb:B'≤B):w.ownsRow B' e k v n xs:=by
 obtain ⟨h1,h2⟩:=h;refine ⟨h1,?_⟩;rcases h2 with h2 | ⟨g,cap,cur,hv,hbg,r⟩
 ·exact .inl h2
 ·exact .inr ⟨g,cap,cur,hv,by omega,r⟩
theorem keeps_of_below {W W':World} (h:Below W.heap.size W W'):KeepsOthers W W' :=
 ⟨h.size,fun k o hk _=>(h.block k (Array.getElem?_eq_some_iff.1 hk).1).trans hk⟩
theorem boxed_below {W W':World} {B t:Nat} {v:Value} (h:Boxed W B t v) (hb:Below W.heap.size W W'):Boxed W' B t v:=(hb.block B h.lt).trans h
theorem block_kept {W W':World} {row:Option Nat} {B t:Nat} {c:Array Value} (h:W.heap[B]?=some (.cells c t (0,0))) (hg:W.grownBy W' row) (hr:∀ r,row=some r→∃ o:Obj,W.heap[r]?=some o∧o.isCells=false):W'.heap[B]?=some (.cells c t (0,0)) :=
 (hg.block B (Array.getElem?_eq_some_iff.1 h).1 (fun e=>by obtain ⟨o,ho,hc⟩:=hr B e.symm;rw [h] at ho;cases ho;cases hc)).trans h
theorem block_not_row {W:World} {B t e:Nat} {c:Array Value} (h:W.heap[B]?=some (.cells c t (0,0))) (hte:t≠e) {base size k:Nat} {v:Value} {xs:List Value} (hr:W.ownsRow base e size v k xs):some B≠v.ownBlock:=by
 rcases hr.2 with ⟨rfl,_⟩ | ⟨g,cap,cur,rfl,_,hgb,_⟩
 ·simp [Value.ownBlock]
 ·intro e'
  obtain rfl:B=g:=by simpa [Value.ownBlock] using e'
  rw [h] at hgb;simp at hgb;exact hte hgb.2
theorem cell_of_block {W:World} {B t:Nat} {c:Array Value} {f:Nat × Nat} (h:W.heap[B]?=some (.cells c t f)) (j:Nat):W.cell? ⟨B,j,none⟩=c[j]?:=by simp [World.cell?,h]
end Go.Proofs.YthamoeekiglphaaGreatDoor
namespace Go.Proofs.YthamoeekiglphaaGreatDoor
set_option maxRecDepth 100000
open Go.RowKit
set_option linter.unusedVariables false
abbrev SVt:=Int × Int × Value
def stV (x:SVt):List Value:=[.int .i64 x.1,.int .i64 x.2.1,x.2.2]
theorem stV_len (x:SVt):(stV x).length=3:=rfl
theorem st_info:(Tryz.prog.info? 113).map (fun i=>(i.zero,i.size,i.bytes))=some (some (.agg #[.int .i64 0,.int .i64 0,.slice none 0 0]),3,40):=by kernel_rfl
structure StAt (W:World) (x:SVt) (s:Stp):Prop where
 from_:x.1=s.1
 to_:x.2.1=s.2.1
 eds:IsEds W x.2.2 s.2.2
def StOf (W:World) (L':List SVt) (L:List Stp):Prop:=L'.length=L.length∧∀ (i:Nat) x s,L'[i]?=some x→L[i]?=some s→StAt W x s
def IsSts (W:World) (v:Value) (L:List Stp):Prop:=∃ L',IsRec 3 stV W v L'∧StOf W L' L
def StRow (t:TypeId) (w:World) (L:List Stp) (e:Ending) (w':World):Prop:=∃ v L',e=.returned v∧Below w.heap.size w w'∧w'.ownsRow w.heap.size t 3 v L'.length (recV stV L')∧StOf w' L' L
theorem StOf.below {W W':World} {L':List SVt} {L:List Stp} (h:StOf W L' L) (hb:Below W.heap.size W W'):StOf W' L' L :=
 ⟨h.1,fun i x s hx hs=>⟨(h.2 i x s hx hs).from_,(h.2 i x s hx hs).to_,(h.2 i x s hx hs).eds.below hb⟩⟩
theorem IsSts.below {W W':World} {v:Value} {L:List Stp} (h:IsSts W v L) (hb:Below W.heap.size W W'):IsSts W' v L:=by
 obtain ⟨L',h1,h2⟩:=h;exact ⟨L',h1.below hb,h2.below hb⟩
theorem IsSts.own {W:World} {B e:Nat} {v:Value} {L':List SVt} {L:List Stp} (h:W.ownsRow B e 3 v L'.length (recV stV L')) (hs:StOf W L' L) (hn:L'.length≤140737488351232):IsSts W v L :=
 ⟨L',IsRec.own stV_len (by omega) h hn,hs⟩
theorem IsSts.reads {W:World} {v:Value} {L:List Stp} (h:IsSts W v L):∃ a cap,v=.slice a L.length cap∧L.length≤cap∧cap≤9223372036854775807∧L.length≤140737488351232 ∧
 Hid (∀ k (hk:k < L.length),∃ b off,a=some ⟨b,off,none⟩∧∃ u,IsEds W u L[k].2.2∧∀ V,Below W.heap.size W V→V.cell? ⟨b,off+k*3,none⟩=some (.int .i64 L[k].1)∧V.cell? ⟨b,off+k*3+1,none⟩=some (.int .i64 L[k].2.1)∧V.cell? ⟨b,off+k*3+2,none⟩=some u):=by
 obtain ⟨L',h1,h2⟩:=h;obtain ⟨a,cap,rfl,a1,a2,a3,HC⟩:=h1.some_at;have hl:=h2.1;rw [hl] at a1 a3;refine ⟨a,cap,by rw [hl],a1,a2,a3,?_⟩;intro k hk;have hk':k < L'.length:=by omega
 obtain ⟨b,off,rfl,hlt,hc⟩:=HC.out k hk';have g:=h2.2 k _ _ (List.getElem?_eq_getElem hk') (List.getElem?_eq_getElem hk);refine ⟨b,off,rfl,L'[k].2.2,g.eds,fun V hV=>?_⟩;rw [← g.from_,← g.to_];exact ⟨(hV.cell (p:=⟨b,off+k*3,none⟩) hlt).trans (hc 0 _ rfl),(hV.cell (p:=⟨b,off+k*3+1,none⟩) hlt).trans (hc 1 _ rfl),(hV.cell (p:=⟨b,off+k*3+2,none⟩) hlt).trans (hc 2 _ rfl)⟩
def EdB (W:World) (v:Value) (l:List Ed):Prop:=∃ b,v=.slice (some ⟨b,0,none⟩) l.length l.length∧W.heap[b]?=some (.cells (recV edV l).toArray 32 (0,0))
theorem EdB.eds {W:World} {v:Value} {l:List Ed} (h:EdB W v l) (hl:l.length≤1000):IsEds W v l:=by
 obtain ⟨b,rfl,hb⟩:=h;refine ⟨_,_,_,rfl,rfl,Nat.le_refl _,by omega,by omega,.inr ⟨b,0,rfl,(Array.getElem?_eq_some_iff.1 hb).1,fun i hi j u hu=>?_⟩⟩;have hj:j < 5:=by rw [← edV_len l[i]];exact (List.getElem?_eq_some_iff.1 hu).1
 rw [cell_of_block hb,Nat.zero_add,List.getElem?_toArray,recV_get edV_len l i hi j hj];exact hu
theorem EdB.kept {W W':World} {v r:Value} {l:List Ed} {B e k n:Nat} {xs:List Value} (h:EdB W v l) (hr:W.ownsRow B e k r n xs) (hte:32≠e) (hg:W.grownBy W' r.ownBlock):EdB W' v l:=by
 obtain ⟨b,rfl,hb⟩:=h;exact ⟨b,rfl,(hg.block b (Array.getElem?_eq_some_iff.1 hb).1 (block_not_row hb hte hr)).trans hb⟩
theorem EdB.below {W W':World} {v:Value} {l:List Ed} (h:EdB W v l) (hb:Below W.heap.size W W'):EdB W' v l:=by
 obtain ⟨b,rfl,hh⟩:=h;exact ⟨b,rfl,(hb.block b (Array.getElem?_eq_some_iff.1 hh).1).trans hh⟩
theorem EdB.new (W:World) (l:List Ed):EdB (W.alloc (.cells (recV edV l).toArray 32)) (.slice (some ⟨W.heap.size,0,none⟩) l.length l.length) l:=⟨W.heap.size,rfl,World.alloc_heap_new W _⟩
def StB (W:World) (L':List SVt) (L:List Stp):Prop:=L'.length=L.length∧∀ (i:Nat) x s,L'[i]?=some x→L[i]?=some s→x.1=s.1∧x.2.1=s.2.1∧EdB W x.2.2 s.2.2∧s.2.2.length≤2
theorem StB.nil (W:World):StB W [] []:=⟨rfl,fun i x s h=>by simp at h⟩
theorem StB.of {W:World} {L':List SVt} {L:List Stp} (h:StB W L' L):StOf W L' L :=
 ⟨h.1,fun i x s hx hs=>by obtain ⟨a,b,c,d⟩:=h.2 i x s hx hs;exact ⟨a,b,c.eds (by omega)⟩⟩
theorem StB.below {W W':World} {L':List SVt} {L:List Stp} (h:StB W L' L) (hb:Below W.heap.size W W'):StB W' L' L :=
 ⟨h.1,fun i x s hx hs=>by obtain ⟨a,b,c,d⟩:=h.2 i x s hx hs;exact ⟨a,b,c.below hb,d⟩⟩
theorem StB.push {wd w3:World} {L':List SVt} {L:List Stp} {B e n:Nat} {r:Value} {xs:List Value} (h:StB wd L' L) (hrow:wd.ownsRow B e 3 r n xs) (hte:32≠e) (es:List Ed) (h2:es.length≤2) (a b:Int) (T:Obj)
 (hg:((wd.alloc (.cells (recV edV es).toArray 32)).alloc T).grownBy w3 r.ownBlock):StB w3 (L'++[(a,b,.slice (some ⟨wd.heap.size,0,none⟩) es.length es.length)]) (L++[(a,b,es)]):=by
 have hb:Below wd.heap.size wd ((wd.alloc (.cells (recV edV es).toArray 32)).alloc T):=((Below.refl _ wd).alloc (Nat.le_refl _) _).alloc (by simp) _;have hr2:=(hrow.alloc (.cells (recV edV es).toArray 32)).alloc T;refine ⟨by simp [h.1],fun i x s hx hs=>?_⟩;rcases Nat.lt_or_ge i L'.length with hi | hi
 ·rw [List.getElem?_append_left hi] at hx
  rw [List.getElem?_append_left (by rw [← h.1];exact hi)] at hs;obtain ⟨p,q,c,d⟩:=h.2 i x s hx hs;exact ⟨p,q,(c.below hb).kept hr2 hte hg,d⟩
 ·rw [List.getElem?_append_right hi] at hx
  rw [List.getElem?_append_right (by rw [← h.1];exact hi)] at hs;rw [h.1] at hx;rcases Nat.eq_zero_or_pos (i - L.length) with h0 | h0
  ·rw [h0] at hx hs
   simp only [List.getElem?_cons_zero,Option.some.injEq] at hx hs;subst hx hs;exact ⟨rfl,rfl,((EdB.new wd es).below ((Below.refl _ _).alloc (Nat.le_refl _) T)).kept hr2 hte hg,h2⟩
  ·rw [List.getElem?_eq_none (by simp;omega)] at hx
   cases hx
def sTo (level:Int) (l:List Ed) (k:Nat):List Stp:=(l.take k).flatMap (stepOf level l)
def sIn (l:List Ed) (e:Ed) (k:Nat):List Stp:=(l.take k).filterMap fun g=>if g.1=3∧g.2.1=e.2.2.1 then some (two2 e g) else none
theorem sTo_all (level:Int) (l:List Ed):sTo level l l.length=stepsL level l:=by unfold sTo stepsL;rw [List.take_length]
theorem sTo_next (level:Int) (l:List Ed) (k:Nat) (hk:k < l.length):sTo level l (k+1)=sTo level l k++stepOf level l l[k]:=by
 unfold sTo;rw [List.take_succ_eq_append_getElem hk,List.flatMap_append];simp
theorem sIn_all (l:List Ed) (e:Ed):sIn l e l.length=l.filterMap fun g=>if g.1=3∧g.2.1=e.2.2.1 then some (two2 e g) else none:=by unfold sIn;rw [List.take_length]
theorem sIn_yes (l:List Ed) (e:Ed) (k:Nat) (hk:k < l.length) (h:l[k].1=3∧l[k].2.1=e.2.2.1):sIn l e (k+1)=sIn l e k++[two2 e l[k]]:=by
 unfold sIn;rw [List.take_succ_eq_append_getElem hk,List.filterMap_append]
 congr 1
 simp [h]
theorem sIn_no (l:List Ed) (e:Ed) (k:Nat) (hk:k < l.length) (h:¬ (l[k].1=3∧l[k].2.1=e.2.2.1)):sIn l e (k+1)=sIn l e k:=by
 unfold sIn;rw [List.take_succ_eq_append_getElem hk,List.filterMap_append]
 rw [show [l[k]].filterMap (fun g=>if g.1=3∧g.2.1=e.2.2.1 then some (two2 e g) else none)=[] by
  rw [List.filterMap_cons,if_neg h];rfl]
 simp
theorem stepOf_1 (l:List Ed) (e:Ed):stepOf 1 l e=[one1 e]:=by unfold stepOf;simp
theorem stepOf_2 (l:List Ed) (e:Ed) (h:e.1≠3):stepOf 2 l e=one1 e::l.filterMap fun g=>if g.1=3∧g.2.1=e.2.2.1 then some (two2 e g) else none:=by unfold stepOf;simp [h]
theorem stepOf_23 (l:List Ed) (e:Ed) (h:e.1=3):stepOf 2 l e=[]:=by unfold stepOf;simp [h]
theorem stepOf_o (level:Int) (l:List Ed) (e:Ed) (h1:level≠1) (h2:level≠2):stepOf level l e=[]:=by unfold stepOf;simp [h1,h2]
theorem recS_snoc (L:List SVt) (x:SVt):recV stV (L++[x])=recV stV L++[.int .i64 x.1,.int .i64 x.2.1,x.2.2]:=by rw [recV_append];rfl
theorem IsEds.at {w:World} {b off:Nat} {l:List Ed} {k:Nat} (hk:k < l.length) (h:∀ j u,(edV l[k])[j]?=some u→w.cell? ⟨b,off+k*5+j,none⟩=some u) :
 w.cell? ⟨b,off+k*5,none⟩=some (.int .i64 l[k].1)∧w.cell? ⟨b,off+k*5+1,none⟩=some (.int .i64 l[k].2.1)∧w.cell? ⟨b,off+k*5+2,none⟩=some (.int .i64 l[k].2.2.1)∧w.cell? ⟨b,off+k*5+3,none⟩=some (.int .i64 l[k].2.2.2.1)∧w.cell? ⟨b,off+k*5+4,none⟩=some (.int .i64 l[k].2.2.2.2) :=
 ⟨h 0 _ rfl,h 1 _ rfl,h 2 _ rfl,h 3 _ rfl,h 4 _ rfl⟩
theorem IsEds.reads {w:World} {v:Value} {l:List Ed} (hT:IsEds w v l):∃ a cap,v=.slice a l.length cap∧l.length≤cap∧cap≤9223372036854775807∧l.length≤140737488351232 ∧
 Hid (0 < l.length→∃ b off,a=some ⟨b,off,none⟩∧Hid (∀ j (hj:j < l.length),∀ V,Below w.heap.size w V→V.cell? ⟨b,off+j*5,none⟩=some (.int .i64 l[j].1)∧V.cell? ⟨b,off+j*5+1,none⟩=some (.int .i64 l[j].2.1)∧V.cell? ⟨b,off+j*5+2,none⟩=some (.int .i64 l[j].2.2.1)∧V.cell? ⟨b,off+j*5+3,none⟩=some (.int .i64 l[j].2.2.2.1)∧V.cell? ⟨b,off+j*5+4,none⟩=some (.int .i64 l[j].2.2.2.2))):=by
 obtain ⟨a,cap,rfl,h1,h2,h3,HC⟩:=hT.some_at;refine ⟨a,cap,rfl,h1,h2,h3,?_⟩;intro h0;obtain ⟨b,off,rfl,hlt,_⟩:=HC.out 0 h0;refine ⟨b,off,rfl,?_⟩;intro j hj V hV;obtain ⟨b',off',hbo,_,hc⟩:=HC.out j hj;obtain ⟨rfl,rfl⟩:b=b'∧off=off':=by simpa using hbo
 obtain ⟨s0,s1,s2,s3,s4⟩:=IsEds.at hj hc;exact ⟨(hV.cell (p:=⟨b,off+j*5,none⟩) hlt).trans s0,(hV.cell (p:=⟨b,off+j*5+1,none⟩) hlt).trans s1,(hV.cell (p:=⟨b,off+j*5+2,none⟩) hlt).trans s2,(hV.cell (p:=⟨b,off+j*5+3,none⟩) hlt).trans s3,(hV.cell (p:=⟨b,off+j*5+4,none⟩) hlt).trans s4⟩
def ndOf (h:List Ev) (j:Nat):Option Int:=if commL h ((j:Int) - 1)=none then none else some ((j:Int) - 1)
def ndL (h:List Ev) (k:Nat):List Int:=(List.range k).filterMap (ndOf h)
def nodeL (h:List Ev):List Int:=ndL h 301
theorem nd_next (h:List Ev) (k:Nat):ndL h (k+1)=ndL h k++(ndOf h k).toList:=by
 unfold ndL;rw [List.range_succ,List.filterMap_append];cases hl:ndOf h k with
 | none=>simp [hl]
 | some x=>simp [hl]
theorem nd_len (h:List Ev) (k:Nat):(ndL h k).length≤k:=by
 unfold ndL;have:=List.length_filterMap_le (ndOf h) (List.range k)
 rwa [List.length_range] at this
theorem comm_has (h:List Ev) (t:Int) (hf:fstL h t h.length=none):commL h t=none:=by
 cases hc:commL h t with
 | none=>rfl
 | some e =>
   obtain ⟨he,_⟩:=(commL_some h t e).1 hc;obtain ⟨e1,e2,_⟩:=(endL_some h t _ e).1 he;exact absurd e2.1 ((fstL_none h t _).1 hf e e1)
abbrev Lf:=Int × Nat × Nat × Bool
abbrev lifA (x:Lf):Value:=.agg #[.int .i64 x.1,.int .i64 (x.2.1:Int),.int .i64 (x.2.2.1:Int),.bool x.2.2.2]
def findP (h:List Ev) (t:Int):Lf × Bool:=match findL h t with
 | none=>((0,0,0,false),false)
 | some x=>(x,true)
theorem size_lif:(Tryz.prog.info? 174).map (·.size)=some 4:=by kernel_rfl
def intV (n:Int):List Value:=[.int .i64 n]
theorem intV_len (n:Int):(intV n).length=1:=rfl
abbrev IsInts (w:World) (v:Value) (L:List Int):Prop:=IsRec 1 intV w v L
theorem int_info:(Tryz.prog.info? 3).map (fun i=>(i.zero,i.size,i.bytes))=some (some (.int .i64 0),1,8):=by kernel_rfl
def InRow (w:World) (L:List Int) (e:Ending) (w':World):Prop:=∃ v,e=.returned v∧Below w.heap.size w w'∧w'.ownsRow w.heap.size 3 1 v L.length (recV intV L)
theorem last_upto (h:List Ev) (t:Int) (key:List UInt8) (i:Nat) (hi:i≤h.length):lastL h t key (i:Int)=lastN h t key i:=by
 unfold lastL;rw [Int.toNat_natCast,Nat.min_eq_right hi]
theorem last_end (h:List Ev) (t:Int) (key:List UInt8) (before:Int) (k:Nat) (hk:k≤h.length) (hb:k=0∨(k:Int)≤before) (he:k=h.length∨before≤(k:Int)):lastL h t key before=lastN h t key k:=by
 unfold lastL;have:min h.length before.toNat=k:=by rw [Nat.min_def];split<;>omega
 rw [this]
def okN (t:Int):Prop:=-9223372036854775808≤t∧t≤9223372036854775807
def goodEd (x:Ed):Prop:=okN x.1∧okN x.2.1∧okN x.2.2.1∧okN x.2.2.2.1∧okN x.2.2.2.2
open Go.ChangeShapes Go.WideShapes Go.ChangeAt Go.RowKit
theorem okN_wf {n:Int} (h:(Lit.int .i64 n).wf=true):okN n:=i64_wf h
theorem ed_elem {H:Type} {enc:TypeId × Value→H} {W:World} (n:Nat) (cs':List Value) (d':DataW H) (p':List MemPlace) (hl:cs'.length=5) (h:DataW.trod enc Tryz.prog W 0 (fun _=>true) true n 32 cs'=some (d',p')):∃ x,cs'=edV x∧goodEd x:=by
 have hu:=Tryz.underlying32;obtain ⟨xs,k,_,hx,hcl,hlen,hel⟩:=DataW.trod_struct hu h;have hlen':xs.length=5:=hlen
 match xs,hlen',cs',hl with
 | [y0,y1,y2,y3,y4],_,[c0,c1,c2,c3,c4],_ =>
   have k3:Tryz.prog.cellsOf 3=1:=by kernel_rfl
   have g0:=hel 0 _ rfl;have g1:=hel 1 _ rfl;have g2:=hel 2 _ rfl;have g3:=hel 3 _ rfl;have g4:=hel 4 _ rfl;simp [k3] at g0 g1 g2 g3 g4;obtain ⟨n0,e0,rfl,w0⟩:=DataW.trod_int Tryz.underlying3 g0;obtain ⟨n1,e1,rfl,w1⟩:=DataW.trod_int Tryz.underlying3 g1;obtain ⟨n2,e2,rfl,w2⟩:=DataW.trod_int Tryz.underlying3 g2;obtain ⟨n3,e3,rfl,w3⟩:=DataW.trod_int Tryz.underlying3 g3;obtain ⟨n4,e4,rfl,w4⟩:=DataW.trod_int Tryz.underlying3 g4;simp at e0 e1 e2 e3 e4;subst e0 e1 e2 e3 e4;exact ⟨(n0,n1,n2,n3,n4),rfl,okN_wf w0,okN_wf w1,okN_wf w2,okN_wf w3,okN_wf w4⟩
end Go.Proofs.YthamoeekiglphaaGreatDoor
namespace Go.Proofs.YthamoeekiglphaaGreatDoor
set_option maxRecDepth 100000
set_option linter.unusedVariables false
def noWalk {α:Type} (l:List (Sp α)):Prop:=∀ n a,1≤n→¬ Walk l n a a
def goodL (h:List Ev) (level:Int):Prop:=clean h∧noWalk (stepsL level (edgesL h))
def flatL (r:List Stp):List Ed:=r.flatMap fun s=>s.2.2
def stepAB (s:List Stp) (a b:Nat):Prop:=∃ x∈s,x.1=(a:Int)∧x.2.1=(b:Int)
def pathK (s:List Stp):Nat→Nat→Nat→Prop
 | 0,a,b=>stepAB s a b
 | k+1,a,b=>pathK s k a b∨(pathK s k a k∧pathK s k k b)
theorem pathK_trans (s:List Stp):∀ (k a c b:Nat),c < k→pathK s k a c→pathK s k c b→pathK s k a b
 | 0,_,_,_,hc,_,_=>absurd hc (by omega)
 | k+1,a,c,b,hc,h1,h2=>by
   rcases Nat.lt_or_ge c k with hck | hck
   ·rcases h1 with h1 | ⟨h1,h1'⟩
    ·rcases h2 with h2 | ⟨h2,h2'⟩
     ·exact .inl (pathK_trans s k a c b hck h1 h2)
     ·exact .inr ⟨pathK_trans s k a c k hck h1 h2,h2'⟩
    ·rcases h2 with h2 | ⟨h2,h2'⟩
     ·exact .inr ⟨h1,pathK_trans s k k c b hck h1' h2⟩
     ·exact .inr ⟨h1,h2'⟩
   ·obtain rfl:c=k:=by omega
    have g1:pathK s c a c:=h1.elim id And.left;have g2:pathK s c c b:=h2.elim id And.right;exact .inr ⟨g1,g2⟩
theorem pathK_step (s:List Stp) {a b:Nat} (h:stepAB s a b):∀ k,pathK s k a b
 | 0=>h
 | k+1=>.inl (pathK_step s h k)
def low64 (s:List Stp):Prop:=∀ x∈s,(0≤x.1∧x.1 < 64)∧0≤x.2.1∧x.2.1 < 64
theorem walk_pathK (s:List Stp) (hl:low64 s):∀ (n:Nat) (a b:Nat),Walk s (n+1) (a:Int) (b:Int)→pathK s 64 a b
 | 0,a,b,h=>by
   obtain ⟨x,hx,hw,e⟩:=h;exact pathK_step s ⟨x,hx,e.symm,hw⟩ 64
 | n+1,a,b,h=>by
   obtain ⟨x,hx,hw,e⟩:=h;obtain ⟨_,h1,h2⟩:=hl x hx;obtain ⟨c,hc⟩:∃ c:Nat,x.2.1=(c:Int):=⟨x.2.1.toNat,by omega⟩;rw [hc] at hw;exact pathK_trans s 64 a c b (by omega) (pathK_step s ⟨x,hx,e.symm,hc⟩ 64) (walk_pathK s hl n c b hw)
def rd (A:List Bool) (a b:Nat):Bool:=A.getD (a*64+b) false
theorem rd_set (A:List Bool) (hA:A.length=4096) (a b x y:Nat) (v:Bool) (ha:a < 64) (hb:b < 64) (hx:x < 64) (hy:y < 64):rd (A.set (a*64+b) v) x y=if x=a∧y=b then v else rd A x y:=by
 unfold rd;rw [List.getD_eq_getElem?_getD,List.getElem?_set,List.getD_eq_getElem?_getD]
 by_cases e:x=a∧y=b
 ·obtain ⟨rfl,rfl⟩:=e
  rw [if_pos rfl,if_pos (by omega),if_pos ⟨rfl,rfl⟩];rfl
 ·rw [if_neg e,if_neg (by omega)]
def soundW (s:List Stp) (A:List Bool):Prop:=∀ a b,a < 64→b < 64→rd A a b=true→∃ n,Walk s (n+1) (a:Int) (b:Int)
structure InvW (s:List Stp) (A:List Bool) (k a b:Nat):Prop where
 len:A.length=4096
 sound:soundW s A
 k1:∀ x y,x < 64→y < 64→pathK s k x y→rd A x y=true
 k2:∀ x y,x < a→x < 64→y < 64→pathK s (k+1) x y→rd A x y=true
 k3:∀ y,y < b→y < 64→pathK s (k+1) a y→rd A a y=true
theorem InvW.step {s:List Stp} {A:List Bool} {k a b:Nat} (h:InvW s A k a b) (hk:k < 64) (ha:a < 64) (hb:b < 64):InvW s (A.set (a*64+b) (rd A a b || rd A a k&&rd A k b)) k a (b+1):=by
 have mono:∀ x y,x < 64→y < 64→rd A x y=true→rd (A.set (a*64+b) (rd A a b || rd A a k&&rd A k b)) x y=true:=fun x y hx hy hr=>by
  rw [rd_set A h.len a b x y _ ha hb hx hy]
  by_cases e:x=a∧y=b
  ·rw [if_pos e]
   obtain ⟨rfl,rfl⟩:=e;rw [hr];rfl
  ·rw [if_neg e];exact hr
 refine ⟨by rw [List.length_set];exact h.len,fun x y hx hy hr=>?_,fun x y hx hy hp=>mono x y hx hy (h.k1 x y hx hy hp),fun x y hxa hx hy hp=>mono x y hx hy (h.k2 x y hxa hx hy hp),fun y hyb hy hp=>?_⟩
 ·rw [rd_set A h.len a b x y _ ha hb hx hy] at hr
  by_cases e:x=a∧y=b
  ·rw [if_pos e] at hr
   obtain ⟨rfl,rfl⟩:=e;rw [Bool.or_eq_true,Bool.and_eq_true] at hr;rcases hr with hr | ⟨r1,r2⟩
   ·exact h.sound x y hx hy hr
   ·obtain ⟨n,hn⟩:=h.sound x k hx hk r1
    obtain ⟨m,hm⟩:=h.sound k y hk hy r2;exact ⟨n+1+m,by have:=hn.append hm;rw [show n+1+(m+1)=n+1+m+1 by omega] at this;exact this⟩
  ·rw [if_neg e] at hr
   exact h.sound x y hx hy hr
 ·rcases Nat.lt_succ_iff_lt_or_eq.1 hyb with hlt | rfl
  ·exact mono a y ha hy (h.k3 y hlt hy hp)
  ·rw [rd_set A h.len a y a y _ ha hb ha hy,if_pos ⟨rfl,rfl⟩,Bool.or_eq_true,Bool.and_eq_true]
   rcases hp with hp | ⟨p1,p2⟩
   ·exact .inl (h.k1 a y ha hy hp)
   ·exact .inr ⟨h.k1 a k ha hk p1,h.k1 k y hk hy p2⟩
theorem InvW.row {s:List Stp} {A:List Bool} {k a:Nat} (h:InvW s A k a 64):InvW s A k (a+1) 0 :=
 ⟨h.len,h.sound,h.k1,fun x y hxa hx hy hp=>by
  rcases Nat.lt_succ_iff_lt_or_eq.1 hxa with hlt | rfl
  ·exact h.k2 x y hlt hx hy hp
  ·exact h.k3 y hy hy hp,fun y hy=>absurd hy (by omega)⟩
theorem InvW.round {s:List Stp} {A:List Bool} {k:Nat} (h:InvW s A k 64 0):InvW s A (k+1) 0 0 :=
 ⟨h.len,h.sound,fun x y hx hy hp=>h.k2 x y hx hx hy hp,fun x y hx=>absurd hx (by omega),fun y hy=>absurd hy (by omega)⟩
structure LayW (s:List Stp) (A:List Bool) (i:Nat):Prop where
 len:A.length=4096
 sound:soundW s A
 has:∀ x∈s.take i,∀ a b:Nat,x.1=(a:Int)→x.2.1=(b:Int)→rd A a b=true
theorem LayW.start (s:List Stp):LayW s (List.replicate 4096 false) 0 :=
 ⟨by simp,fun a b ha hb hr=>by
  unfold rd at hr;rw [List.getD_eq_getElem?_getD,List.getElem?_replicate] at hr
  split at hr<;>simp at hr,fun x hx=>by simp at hx⟩
theorem LayW.next {s:List Stp} {A:List Bool} {i:Nat} (h:LayW s A i) (hl:low64 s) (hi:i < s.length) (a b:Nat) (ea:s[i].1=(a:Int)) (eb:s[i].2.1=(b:Int)):LayW s (A.set (a*64+b) true) (i+1):=by
 obtain ⟨l1,l2⟩:=hl s[i] (List.getElem_mem hi);have ha:a < 64:=by omega
 have hb:b < 64:=by omega
 refine ⟨by rw [List.length_set];exact h.len,fun x y hx hy hr=>?_,fun x hx p q ep eq=>?_⟩
 ·rw [rd_set A h.len a b x y _ ha hb hx hy] at hr
  by_cases e:x=a∧y=b
  ·obtain ⟨rfl,rfl⟩:=e
   exact ⟨0,s[i],List.getElem_mem hi,eb,ea.symm⟩
  ·rw [if_neg e] at hr
   exact h.sound x y hx hy hr
 ·have hxs:x∈s:=List.mem_of_mem_take hx
  obtain ⟨m1,m2⟩:=hl x hxs;rw [rd_set A h.len a b p q _ ha hb (by omega) (by omega)]
  by_cases e:p=a∧q=b
  ·rw [if_pos e]
  ·rw [if_neg e]
   rw [List.take_succ_eq_append_getElem hi] at hx;rcases List.mem_append.1 hx with hx | hx
   ·exact h.has x hx p q ep eq
   ·simp at hx
    subst hx;exact absurd ⟨by omega,by omega⟩ e
theorem LayW.done {s:List Stp} {A:List Bool} (h:LayW s A s.length):InvW s A 0 0 0 :=
 ⟨h.len,h.sound,fun x y hx hy ⟨z,hz,e1,e2⟩=>h.has z (by rw [List.take_length];exact hz) x y e1 e2,fun x y hx=>absurd hx (by omega),fun y hy=>absurd hy (by omega)⟩
theorem InvW.good {s:List Stp} {A:List Bool} (h:InvW s A 64 0 0) (hl:low64 s):(∀ a,a < 64→rd A a a=false)↔noWalk s:=by
 constructor
 ·intro hd n x hn hw
  obtain ⟨m,rfl⟩:∃ m,n=m+1:=⟨n - 1,by omega⟩;obtain ⟨z,hz,_,e⟩:=hw;obtain ⟨l1,_⟩:=hl z hz;obtain ⟨a,ea⟩:∃ a:Nat,x=(a:Int):=⟨x.toNat,by omega⟩;subst ea;have hp:=walk_pathK s hl m a a ⟨z,hz,by assumption,e⟩;have hr:=h.k1 a a (by omega) (by omega) hp;rw [hd a (by omega)] at hr;cases hr
 ·intro hn a ha
  cases hr:rd A a a with
  | false=>rfl
  | true =>
    obtain ⟨n,hw⟩:=h.sound a a ha ha hr;exact absurd hw (hn (n+1) a (by omega))
abbrev Vd:=Int × Bool × List Int × (Int × Int × Int) × List Ed
def zV:Vd:=(0,false,[],(0,0,0),[])
def judgeL (h:List Ev) (level:Int):Vd × Int :=
 if level≠1∧level≠2 then (zV,1)
 else if (formedL h).2≠0 then (zV,((formedL h).2:Int))
 else match badsL h with
  | b::_=>((level,false,[],b,[]),0)
  | []=>match orderL (nodeL h) (stepsL level (edgesL h)) with
    | some o=>((level,true,o,(0,0,0),[]),0)
    | none=>((level,false,[],(0,0,0),flatL ((ringL (stepsL level (edgesL h))).getD [])),0)
theorem judge_arg (h:List Ev) (level:Int) (h1:level≠1) (h2:level≠2):judgeL h level=(zV,1):=by unfold judgeL;rw [if_pos ⟨h1,h2⟩]
theorem judge_form (h:List Ev) (level:Int) (hl:level=1∨level=2) (hf:(formedL h).2≠0):judgeL h level=(zV,((formedL h).2:Int)):=by unfold judgeL;rw [if_neg (by omega),if_pos hf]
theorem judge_bad (h:List Ev) (level:Int) (hl:level=1∨level=2) (hf:(formedL h).2=0) (b:Int × Int × Int) (r:List (Int × Int × Int)) (hb:badsL h=b::r):judgeL h level=((level,false,[],b,[]),0):=by
 unfold judgeL;rw [if_neg (by omega),if_neg (fun e=>e hf),hb]
theorem judge_order (h:List Ev) (level:Int) (hl:level=1∨level=2) (hf:(formedL h).2=0) (hb:badsL h=[]) (o:List Int) (ho:orderL (nodeL h) (stepsL level (edgesL h))=some o):judgeL h level=((level,true,o,(0,0,0),[]),0):=by
 unfold judgeL;rw [if_neg (by omega),if_neg (fun e=>e hf),hb];simp only;rw [ho]
theorem judge_ring (h:List Ev) (level:Int) (hl:level=1∨level=2) (hf:(formedL h).2=0) (hb:badsL h=[]) (ho:orderL (nodeL h) (stepsL level (edgesL h))=none):judgeL h level=((level,false,[],(0,0,0),flatL ((ringL (stepsL level (edgesL h))).getD [])),0):=by
 unfold judgeL;rw [if_neg (by omega),if_neg (fun e=>e hf),hb];simp only;rw [ho]
theorem wf_low {h:List Ev} (hw:WF h) (i:Nat) (hi:i < h.length):0≤(ev h i).2.1∧(ev h i).2.1≤63:=by
 have:=wf_may hw hi;unfold mayE at this;omega
theorem step_ends (h:List Ev) (level:Int) (s:Stp) (hs:s∈stepsL level (edgesL h)):∃ e∈edgesL h,∃ g∈edgesL h,s.1=e.2.1∧s.2.1=g.2.2.1:=by
 rcases steps_cases level (edgesL h) s hs with ⟨e,he,_,rfl⟩ | ⟨_,e,he,g,hg,hh⟩
 ·exact ⟨e,he,e,he,rfl,rfl⟩
 ·obtain ⟨_,_,_,rfl⟩:=hh
  exact ⟨e,he,g,hg,rfl,rfl⟩
theorem steps_low {h:List Ev} (hw:WF h) (level:Int):low64 (stepsL level (edgesL h)):=by
 intro s hs;obtain ⟨e,he,g,hg,e1,e2⟩:=step_ends h level s hs;obtain ⟨_,_,i,j,_,_,_,_,_,hi,hj,_,t1,t2⟩:=edges_apart h e he;obtain ⟨_,_,i',j',_,_,_,_,_,hi',hj',_,u1,u2⟩:=edges_apart h g hg;have g1:=wf_low hw i hi;have g2:=wf_low hw j' hj';unfold tx at t1 u2;rw [e1,e2,← t1,← u2];omega
open Go.RowKit
abbrev Bd:=Int × Int × Int
def badV (x:Bd):List Value:=[.int .i64 x.1,.int .i64 x.2.1,.int .i64 x.2.2]
theorem badV_one (x:Bd):∀ u∈badV x,u.oneCell'=true:=by
 intro u hu;simp [badV] at hu;rcases hu with rfl | rfl | rfl<;>rfl
abbrev badA (x:Bd):Value:=.agg #[.int .i64 x.1,.int .i64 x.2.1,.int .i64 x.2.2]
theorem bad_info:(Tryz.prog.info? 24).map (fun i=>(i.zero,i.size,i.bytes))=some (some (.agg #[.int .i64 0,.int .i64 0,.int .i64 0]),3,24):=by kernel_rfl
theorem size_bad:(Tryz.prog.info? 24).map (·.size)=some 3:=by kernel_rfl
def BdRow (t:TypeId) (w:World) (L:List Bd) (e:Ending) (w':World):Prop:=∃ v,e=.returned v∧Below w.heap.size w w'∧w'.ownsRow w.heap.size t 3 v L.length (recV badV L)
def countI (h:List Ev) (i:Int):Bool:=decide (0≤i)&&countsB h i.toNat
def atI (h:List Ev) (i:Int):Bd:=if 0≤i then atL h i.toNat else (0,0,0)
def outerI (h:List Ev) (i:Int):Bool:=decide (0≤i)&&outerB h i.toNat
theorem count_out (h:List Ev) (i:Nat) (hi:¬ i < h.length):countsB h i=false:=by unfold countsB;rw [decide_eq_false hi];rfl
theorem count_kind (h:List Ev) (i:Nat) (hk:(ev h i).1≠2):countsB h i=false:=by unfold countsB;rw [decide_eq_false hk];simp
theorem count_open (h:List Ev) (i:Nat) (he:endL h (ev h i).2.1 h.length=none):countsB h i=false:=by
 unfold countsB commL;rw [he];simp
theorem count_end (h:List Ev) (i e:Nat) (hi:i < h.length) (hk:(ev h i).1=2) (he:endL h (ev h i).2.1 h.length=some e):countsB h i=(decide (i < e)&&decide ((ev h e).1=4)):=by
 unfold countsB commL;rw [he,decide_eq_true hi,decide_eq_true hk];simp only
 by_cases h4:(ev h e).1=4
 ·rw [if_pos h4,decide_eq_true h4];simp
 ·rw [if_neg h4,decide_eq_false h4];simp
theorem results_row1 {P:Program} {fn:Func} {p:Tmp} {ty:TypeId} (h:fn.results=#[.cell p ty]) (tmps:Array Value) (w:World) (g:Nat) (t:TypeId) (cs:Array Value) (fr:Nat × Nat) (d:TypeDesc)
 (hp:tmps.getD p undef=.pointer (some ⟨g,0,none⟩)) (hg:w.heap[g]?=some (.cells cs t fr))
 (hu:P.underlying ty=some d) (hd:(match d with | .struct _ | .array _ _=>true | _=>false)=true) (hi:(P.info? ty).map (·.size)=some cs.size) :
 (results fn tmps).run P w=.ok (.agg cs) w:=by
 have hp':tmps[p]?.getD undef=.pointer (some ⟨g,0,none⟩):=by simpa using hp
 simp [results,h,hp',asAddr,run_loadVar_row w g t ty cs fr d hg hu hd hi]
theorem SBox.put3 {w:World} {g:Nat} {t:TypeId} {p q r:Value} (h:SBox w g t #[p,q,r]) (a b c:Value):SBox (((w.setCell ⟨g,0,none⟩ a).setCell ⟨g,1,none⟩ b).setCell ⟨g,2,none⟩ c) g t #[a,b,c]:=((h.set 0 a).set 1 b).set 2 c
theorem bel_put3 {B:Nat} {a w:World} (h:Below B a w) {g:Nat} (hg:B≤g) (p q r:Value):Below B a (((w.setCell ⟨g,0,none⟩ p).setCell ⟨g,1,none⟩ q).setCell ⟨g,2,none⟩ r) :=
 ((h.setCell (p:=⟨g,0,none⟩) hg p).setCell (p:=⟨g,1,none⟩) hg q).setCell (p:=⟨g,2,none⟩) hg r
attribute [local go_sem] ba_size
abbrev vdC (v:Vd) (vo vr:Value):Array Value:=#[.int .i64 v.1,.bool v.2.1,vo,.int .i64 v.2.2.2.1.1,.int .i64 v.2.2.2.1.2.1,.int .i64 v.2.2.2.1.2.2,vr]
theorem size_vd:(Tryz.prog.info? 27).map (·.size)=some 7:=by kernel_rfl
def VRes (w:World) (r:Vd × Int) (e:Ending) (w':World):Prop:=∃ vo vr,e=.returned (.tuple #[.agg (vdC r.1 vo vr),.int .i64 r.2])∧Below w.heap.size w w' ∧
 w'.ownsRow w.heap.size 3 1 vo r.1.2.2.1.length (recV intV r.1.2.2.1)∧w'.ownsRow w.heap.size 32 5 vr r.1.2.2.2.2.length (recV edV r.1.2.2.2.2)
theorem SBox.put7 {W:World} {B t:Nat} {a b c d e f g:Value} (h:SBox W B t #[a,b,c,d,e,f,g]) (a' b' c' d' e' f' g':Value) :
 SBox (((((((W.setCell ⟨B,0,none⟩ a').setCell ⟨B,1,none⟩ b').setCell ⟨B,2,none⟩ c').setCell ⟨B,3,none⟩ d').setCell ⟨B,4,none⟩ e').setCell ⟨B,5,none⟩ f').setCell ⟨B,6,none⟩ g') B t #[a',b',c',d',e',f',g']:=by
 have h0:SBox (W.setCell ⟨B,0,none⟩ a') B t #[a',b,c,d,e,f,g]:=h.set 0 a';generalize W.setCell ⟨B,0,none⟩ a'=W0 at h0 ⊢;have h1:SBox (W0.setCell ⟨B,1,none⟩ b') B t #[a',b',c,d,e,f,g]:=h0.set 1 b';generalize W0.setCell ⟨B,1,none⟩ b'=W1 at h1 ⊢;have h2:SBox (W1.setCell ⟨B,2,none⟩ c') B t #[a',b',c',d,e,f,g]:=h1.set 2 c';generalize W1.setCell ⟨B,2,none⟩ c'=W2 at h2 ⊢;have h3:SBox (W2.setCell ⟨B,3,none⟩ d') B t #[a',b',c',d',e,f,g]:=h2.set 3 d';generalize W2.setCell ⟨B,3,none⟩ d'=W3 at h3 ⊢;have h4:SBox (W3.setCell ⟨B,4,none⟩ e') B t #[a',b',c',d',e',f,g]:=h3.set 4 e';generalize W3.setCell ⟨B,4,none⟩ e'=W4 at h4 ⊢;have h5:SBox (W4.setCell ⟨B,5,none⟩ f') B t #[a',b',c',d',e',f',g]:=h4.set 5 f';generalize W4.setCell ⟨B,5,none⟩ f'=W5 at h5 ⊢
 exact h5.set 6 g'
theorem bel_put7 {n:Nat} {w W:World} {B:Nat} (h:Below n w W) (hb:n≤B) (a' b' c' d' e' f' g':Value) :
 Below n w (((((((W.setCell ⟨B,0,none⟩ a').setCell ⟨B,1,none⟩ b').setCell ⟨B,2,none⟩ c').setCell ⟨B,3,none⟩ d').setCell ⟨B,4,none⟩ e').setCell ⟨B,5,none⟩ f').setCell ⟨B,6,none⟩ g') :=
 ((((((h.setCell (p:=⟨B,0,none⟩) hb _).setCell (p:=⟨B,1,none⟩) hb _).setCell (p:=⟨B,2,none⟩) hb _).setCell (p:=⟨B,3,none⟩) hb _).setCell (p:=⟨B,4,none⟩) hb _).setCell (p:=⟨B,5,none⟩) hb _).setCell (p:=⟨B,6,none⟩) hb _
theorem owns_put7 {W:World} {A e k n B:Nat} {v:Value} {xs:List Value} (h:W.ownsRow A e k v n xs) (hne:some B≠v.ownBlock) (a' b' c' d' e' f' g':Value) :
 (((((((W.setCell ⟨B,0,none⟩ a').setCell ⟨B,1,none⟩ b').setCell ⟨B,2,none⟩ c').setCell ⟨B,3,none⟩ d').setCell ⟨B,4,none⟩ e').setCell ⟨B,5,none⟩ f').setCell ⟨B,6,none⟩ g').ownsRow A e k v n xs :=
 owns_keep7 (g:=B) (j:=6) (owns_keep7 (g:=B) (j:=5) (owns_keep7 (g:=B) (j:=4) (owns_keep7 (g:=B) (j:=3) (owns_keep7 (g:=B) (j:=2) (owns_keep7 (g:=B) (j:=1) (owns_keep7 (g:=B) (j:=0) h a' hne) b' hne) c' hne) d' hne) e' hne) f' hne) g' hne
theorem flat_next (l:List Stp) (k:Nat) (hk:k < l.length):flatL (l.take (k+1))=flatL (l.take k)++l[k].2.2:=by
 unfold flatL;rw [List.take_succ_eq_append_getElem hk,List.flatMap_append];simp
theorem flat_take (l:List Stp) (k:Nat):(flatL (l.take k)).length≤(flatL l).length:=by
 have:flatL l=flatL (l.take k)++flatL (l.drop k):=by unfold flatL;rw [← List.flatMap_append,List.take_append_drop]
 rw [this,List.length_append];omega
theorem recE12_snoc (L:List Ed) (x:Ed):recV edV (L++[x])=recV edV L++edV x:=by rw [recV_append];simp [recV]
theorem chainR_at (level:Int):∀ (l:List Ed) (f:Ed),chainR level l f→∀ i (hi:i < l.length),relE level l[i] (if h:i+1 < l.length then l[i+1] else f)
 | [],_,_,i,hi=>absurd hi (by simp)
 | [e],f,h,i,hi=>by
   have:i=0:=by simp at hi;omega
   subst this;have h':relE level e f:=h;simpa using h'
 | e::e'::r,f,h,i,hi=>by
   obtain ⟨h1,h2⟩:=h;cases i with
   | zero=>simpa using h1
   | succ i =>
     have ih:=chainR_at level (e'::r) f h2 i (by simpa using hi);have hb:(i+1 < (e'::r).length)↔(i+1+1 < (e::e'::r).length):=by simp
     by_cases hq:i+1 < (e'::r).length
     ·rw [dif_pos hq] at ih
      rw [dif_pos (hb.1 hq)];simpa using ih
     ·rw [dif_neg hq] at ih
      rw [dif_neg (fun hh=>hq (hb.2 hh))];simpa using ih
def nxtE (l:List Ed) (i:Nat):Ed:=l.getD ((i+1) % l.length) (0,0,0,0,0)
theorem cyc_at (level:Int) (l:List Ed) (h:cyc level l) (i:Nat) (hi:i < l.length):relE level l[i] (nxtE l i):=by
 cases l with
 | nil=>simp at hi
 | cons e r =>
   have:=chainR_at level (e::r) e h i hi;unfold nxtE
   by_cases hq:i+1 < (e::r).length
   ·rw [dif_pos hq] at this
    rw [Nat.mod_eq_of_lt hq,List.getD_eq_getElem?_getD,List.getElem?_eq_getElem hq];exact this
   ·rw [dif_neg hq] at this
    have e1:i+1=(e::r).length:=by omega
    rw [e1,Nat.mod_self];exact this
theorem getD_in {l:List Int} {k:Nat} (hk:k < l.length):l.getD k 0=l[k]:=by rw [List.getD_eq_getElem?_getD,List.getElem?_eq_getElem hk];rfl
theorem chainR_of (level:Int):∀ (l:List Ed) (f:Ed),(∀ i (hi:i < l.length),relE level l[i] (if h:i+1 < l.length then l[i+1] else f))→chainR level l f
 | [],_,_=>trivial
 | [e],f,h=>by
   have:=h 0 (by simp);show relE level e f;simpa using this
 | e::e'::r,f,h=>by
   refine ⟨?_,chainR_of level (e'::r) f (fun i hi=>?_)⟩
   ·have:=h 0 (by simp)
    simpa using this
   ·have:=h (i+1) (by simpa using hi)
    by_cases hq:i+1 < (e'::r).length
    ·rw [dif_pos hq]
     rw [dif_pos (by simpa using hq)] at this;simpa using this
    ·rw [dif_neg hq]
     rw [dif_neg (by simpa using hq)] at this;simpa using this
theorem cyc_iff (level:Int) (l:List Ed):cyc level l↔0 < l.length∧∀ i (hi:i < l.length),relE level l[i] (nxtE l i):=by
 constructor
 ·intro h
  refine ⟨?_,fun i hi=>cyc_at level l h i hi⟩;cases l with
  | nil=>exact absurd h (fun e=>e)
  | cons e r=>simp
 ·rintro ⟨h0,h⟩
  cases l with
  | nil=>simp at h0
  | cons e r =>
    refine chainR_of level (e::r) e (fun i hi=>?_);have:=h i hi;unfold nxtE at this
    by_cases hq:i+1 < (e::r).length
    ·rw [dif_pos hq]
     rw [Nat.mod_eq_of_lt hq,List.getD_eq_getElem?_getD,List.getElem?_eq_getElem hq] at this;exact this
    ·rw [dif_neg hq]
     rw [show i+1=(e::r).length by omega,Nat.mod_self] at this;exact this
def okV (v:Vd):Prop:=okN v.1∧(okN v.2.2.2.1.1∧okN v.2.2.2.1.2.1∧okN v.2.2.2.1.2.2)∧(∀ x∈v.2.2.1,okN x)∧(∀ x∈v.2.2.2.2,goodEd x)∧v.2.2.1.length≤17592186043904
open Go.ChangeShapes Go.WideShapes Go.ChangeAt Go.RowKit
theorem int_elem13 {H:Type} {enc:TypeId × Value→H} {W:World} (n:Nat) (cs':List Value) (d':DataW H) (p':List MemPlace) (hl:cs'.length=1) (h:DataW.trod enc Tryz.prog W 0 (fun _=>true) true n 3 cs'=some (d',p')):∃ x,cs'=intV x∧okN x:=by
 obtain ⟨n0,e0,hx,w0⟩:=DataW.trod_int Tryz.underlying3 h;exact ⟨n0,by rw [e0];rfl,okN_wf w0⟩
theorem int_cells13 {H:Type} {enc:TypeId × Value→H} {W:World} {m:Nat} {c:Value} {d:DataW H} {p:List MemPlace}
 (hf:DataW.trod enc Tryz.prog W 0 (fun _=>true) true m 22 [c]=some (d,p)) (hw:(DataW.weights Tryz.prog 22 d).all (·≤ reachBytes)=true):∃ L:List Int,IsInts W c L∧(∀ x∈L,okN x)∧L.length*8≤reachBytes :=
 rec_cells (sz:=1) (rec:=intV) okN 8 Tryz.underlying22 (by kernel_rfl) (by omega) (by kernel_rfl) (by omega) (fun n cs' d' p' hl h hw'=>int_elem13 n cs' d' p' hl h) hf hw
theorem ed_cells13o {H:Type} {enc:TypeId × Value→H} {W:World} {m:Nat} {c:Value} {d:DataW H} {p:List MemPlace}
 (hf:DataW.trod enc Tryz.prog W 0 (fun _=>true) true m 25 [c]=some (d,p)) (hw:(DataW.weights Tryz.prog 25 d).all (·≤ reachBytes)=true):∃ L:List Ed,IsEds W c L∧(∀ x∈L,goodEd x)∧L.length*40≤reachBytes :=
 rec_cells (sz:=5) (rec:=edV) goodEd 40 Tryz.underlying25 (by kernel_rfl) (by omega) (by kernel_rfl) (by omega) (fun n cs' d' p' hl h hw'=>ed_elem n cs' d' p' hl h) hf hw
theorem bad_elem13 {H:Type} {enc:TypeId × Value→H} {W:World} (n:Nat) (cs':List Value) (d':DataW H) (p':List MemPlace) (hl:cs'.length=3) (h:DataW.trod enc Tryz.prog W 0 (fun _=>true) true n 24 cs'=some (d',p')):∃ x:Bd,cs'=badV x∧okN x.1∧okN x.2.1∧okN x.2.2:=by
 have hu:=Tryz.underlying24;obtain ⟨xs,k,_,hx,hcl,hlen,hel⟩:=DataW.trod_struct hu h;have hlen':xs.length=3:=hlen
 match xs,hlen',cs',hl with
 | [y0,y1,y2],_,[c0,c1,c2],_ =>
   have k3:Tryz.prog.cellsOf 3=1:=by kernel_rfl
   have g0:=hel 0 _ rfl;have g1:=hel 1 _ rfl;have g2:=hel 2 _ rfl;simp [k3] at g0 g1 g2;obtain ⟨n0,e0,rfl,w0⟩:=DataW.trod_int Tryz.underlying3 g0;obtain ⟨n1,e1,rfl,w1⟩:=DataW.trod_int Tryz.underlying3 g1;obtain ⟨n2,e2,rfl,w2⟩:=DataW.trod_int Tryz.underlying3 g2;simp at e0 e1 e2;subst e0 e1 e2;exact ⟨(n0,n1,n2),rfl,okN_wf w0,okN_wf w1,okN_wf w2⟩
theorem vd_elem13 {H:Type} {enc:TypeId × Value→H} {W:World} (n:Nat) (cs':List Value) (d':DataW H) (p':List MemPlace) (hl:cs'.length=7) (h:DataW.trod enc Tryz.prog W 0 (fun _=>true) true n 27 cs'=some (d',p')) (hw:(DataW.weights Tryz.prog 27 d').all (·≤ reachBytes)=true) :
 ∃ (x:Vd) (vo vr:Value),cs'=(vdC x vo vr).toList∧IsInts W vo x.2.2.1∧IsEds W vr x.2.2.2.2∧okV x:=by
 have hu:=Tryz.underlying27;obtain ⟨xs,k,_,hx,hcl,hlen,hel⟩:=DataW.trod_struct hu h;have hlen':xs.length=5:=hlen
 match xs,hlen',cs',hl with
 | [y0,y1,y2,y3,y4],_,[c0,c1,c2,c3,c4,c5,c6],_ =>
   have k3:Tryz.prog.cellsOf 3=1:=by kernel_rfl
   have k4:Tryz.prog.cellsOf 4=1:=by kernel_rfl
   have k5:Tryz.prog.cellsOf 22=1:=by kernel_rfl
   have k6:Tryz.prog.cellsOf 24=3:=by kernel_rfl
   have k7:Tryz.prog.cellsOf 25=1:=by kernel_rfl
   have g0:=hel 0 _ rfl;have g1:=hel 1 _ rfl;have g2:=hel 2 _ rfl;have g3:=hel 3 _ rfl;have g4:=hel 4 _ rfl;simp [k3,k4,k5,k6,k7] at g0 g1 g2 g3 g4;have hd:=congrArg Prod.fst hx;simp at hd;subst hd;simp only [DataW.weights,hu,List.map_cons,List.map_nil] at hw;simp only [DataW.weightsEach,List.append_nil,List.all_append,Bool.and_eq_true] at hw;obtain ⟨n0,e0,r0,w0⟩:=DataW.trod_int Tryz.underlying3 g0;obtain ⟨b1,e1,r1⟩:=DataW.trod_bool Tryz.underlying4 g1;obtain ⟨o,ho,go,lo⟩:=int_cells13 (d:=y2.1) (p:=y2.2) g2 hw.2.2.1;obtain ⟨⟨b,bq,br⟩,hb,gb⟩:=bad_elem13 _ _ y3.1 y3.2 rfl g3;obtain ⟨E,hE,gE,_⟩:=ed_cells13o (d:=y4.1) (p:=y4.2) g4 hw.2.2.2.2;simp at e0 e1;simp [badV] at hb;obtain ⟨rfl,rfl,rfl⟩:=hb
   subst e0 e1;exact ⟨(n0,b1,o,(b,bq,br),E),c2,c6,rfl,ho,hE,okN_wf w0,gb,go,gE,by simp only [reachBytes] at lo;simp only;omega⟩
theorem weights_strs {H:Type} (ss:List ByteArray) (h:(DataW.weightsAll Tryz.prog 9 (strs (H:=H) ss)).all (·≤ reachBytes)=true):∀ s∈ss,s.size≤140737488351232:=by
 induction ss with
 | nil=>simp
 | cons a r ih =>
   simp only [strs,List.map_cons,DataW.weightsAll,DataW.weights,List.cons_append,List.nil_append,List.all_cons,Bool.and_eq_true,decide_eq_true_eq] at h;intro s hs;rcases List.mem_cons.1 hs with rfl | hs
   ·have:=h.1;simp [reachBytes] at this;exact this
   ·exact ih h.2 s hs
theorem txt_cells {H:Type} {enc:TypeId × Value→H} {W:World} {m:Nat} {c:Value} {d:DataW H} {p:List MemPlace}
 (hf:DataW.trod enc Tryz.prog W 0 (fun _=>true) true m 45 [c]=some (d,p)) (hw:(DataW.weights Tryz.prog 45 d).all (·≤ reachBytes)=true):∃ ss:List (List UInt8),IsTxt W c ss∧∀ s∈ss,s.length≤140737488351232:=by
 rcases open_strings Tryz.underlying45 Tryz.underlying9 (by kernel_rfl) hf with ⟨hcs,_⟩ | ⟨x,len,cap,ss,hcs,_,hl,hm,hz,hx,hcell,hws⟩
 ·simp at hcs
  subst hcs;exact ⟨[],IsTxt.nil W,by simp⟩
 ·simp at hcs
  subst hcs;simp only [if_true] at hz;have hd:d=.slice (strs (ss.take len)) (strs (ss.drop len)):=congrArg Prod.fst hx;subst hd;simp only [DataW.weights,Tryz.underlying45,List.all_cons,Bool.and_eq_true,decide_eq_true_eq,List.all_append] at hw;obtain ⟨hw1,hw2,hw3⟩:=hw;have hb:Tryz.prog.bytesOf 9=16:=by kernel_rfl
  rw [hb] at hw1;simp only [strs,List.length_map,List.length_take,List.length_drop,reachBytes] at hw1;have hsz:=weights_strs _ hw2
  have hbd:∀ s∈(ss.take len).map (fun s=>s.data.toList),s.length≤140737488351232:=by
   intro s hs;obtain ⟨y,hy,rfl⟩:=List.mem_map.1 hs;have:=hsz y hy;simpa using this
  refine ⟨(ss.take len).map (fun s=>s.data.toList),⟨_,_,_,rfl,by simp;omega,hl,by unfold maxLen at hm;omega,by omega,fun s hs=>by have:=hbd s hs;omega,?_⟩,hbd⟩
  by_cases h0:len=0
  ·exact .inl h0
  ·right
   have hc0:=hcell 0 (by omega);obtain ⟨b,off,spot⟩:=x;have hspot:spot=none:=by simpa [Addr.add] using World.cell?_spot hc0
   subst hspot
   have hlt:b < W.heap.size:=by
    rcases Nat.lt_or_ge b W.heap.size with h' | h'
    ·exact h'
    ·simp [World.cell?,Addr.add,Array.getElem?_eq_none h'] at hc0
   refine ⟨b,off,rfl,hlt,fun i hi=>?_⟩;have hi':i < len:=by simp at hi;omega
   have:=hcell i (by omega);have ea:(⟨b,off,none⟩:Addr).add i=⟨b,off+i,none⟩:=by unfold Addr.add;split<;>simp_all
   rw [ea] at this;rw [this];have hi2:i < ss.length:=by omega
   simp [List.getD,List.getElem?_eq_getElem hi2]
end Go.Proofs.YthamoeekiglphaaGreatDoor
namespace Go.Proofs.YthamoeekiglphaaGreatDoor
set_option maxRecDepth 100000
set_option linter.unusedVariables false
abbrev Pf:=Int × Ev × List (List UInt8)
abbrev Ct:=List UInt8 × Int × List UInt8 × List UInt8 × Int × Vd × List Pf
def wrI (h:List Ev) (i:Int):Option Nat:=if 0≤i∧i < (h.length:Int)∧(ev h i.toNat).2.2.2≠[] then writerL h (ev h i.toNat).2.2.1 (ev h i.toNat).2.2.2 else none
def wrT (h:List Ev) (i:Int):Bool:=decide (0≤i∧i < (h.length:Int)∧(ev h i.toNat).2.2.2≠[])
def plE (h:List Ev) (e:Ed):List Int:=[e.2.2.2.1,e.2.2.2.2]++(if e.1=3 then (match wrI h e.2.2.2.1 with | some w=>[(w:Int)] | none=>[]) else [])
def enE (h:List Ev) (e:Ed):List Int:=[e.2.1,e.2.2.1]++(if e.1=3 then (match wrI h e.2.2.2.1 with | some w=>[tx h w] | none=>[]) else [])
def plB (h:List Ev) (b:Int × Int × Int):List Int:=[b.2.1,b.2.2]++(if wrT h b.2.1=true then [oI (writerL h (ev h b.2.1.toNat).2.2.1 (ev h b.2.1.toNat).2.2.2)] else [])
def inT (h:List Ev) (i:Int):Option Int:=if 0≤i∧i < (h.length:Int) then some (tx h i.toNat) else none
def enB (h:List Ev) (b:Int × Int × Int):List Int:=(plB h b).filterMap (inT h)
def plW (h:List Ev) (v:Vd):List Int:=if v.2.2.2.1.1≠0 then plB h v.2.2.2.1 else v.2.2.2.2.flatMap (plE h)
def enW (h:List Ev) (v:Vd):List Int:=if v.2.2.2.1.1≠0 then enB h v.2.2.2.1 else v.2.2.2.2.flatMap (enE h)
def endsAt (h:List Ev) (t n:Int):Bool:=match findL h t with
 | some y=>decide ((y.2.2.1:Int)=n)
 | none=>false
def wantB (h:List Ev) (v:Vd) (n:Int):Bool:=!v.2.1&&(decide (n∈plW h v) || (enW h v).any (fun t=>endsAt h t n))
def needN (h:List Ev) (v:Vd):List Nat:=(List.range h.length).filter fun n=>wantB h v (n:Int)
theorem need_in (h:List Ev) (v:Vd) (n:Nat) (hn:n∈needN h v):n < h.length:=List.mem_range.1 (List.mem_filter.1 hn).1
theorem need_len (h:List Ev) (v:Vd):(needN h v).length≤h.length:=by
 unfold needN;exact Nat.le_trans (List.length_filter_le _ _) (by rw [List.length_range];exact Nat.le_refl _)
abbrev plM (i:Int):Prop:=0≤i∧i≤255
abbrev txM (n:Int):Prop:=1≤n∧n≤32
abbrev edM (e:Ed):Prop:=(1≤e.1∧e.1≤3)∧(txM e.2.1∧txM e.2.2.1)∧plM e.2.2.2.1∧plM e.2.2.2.2
abbrev pfM (p:Pf):Prop:=(plM p.1∧mayE p.2.1)∧p.2.2.length≤12∧∀ t∈p.2.2,t.length=32
abbrev vdM (v:Vd):Prop:=((1≤v.1∧v.1≤2)∧v.2.2.1.length≤32∧(0≤v.2.2.2.1.1∧v.2.2.2.1.1≤4)∧(plM v.2.2.2.1.2.1∧plM v.2.2.2.1.2.2)∧v.2.2.2.2.length≤128)∧(∀ n∈v.2.2.1,txM n)∧∀ e∈v.2.2.2.2,edM e
abbrev mayC (c:Ct):Prop:=((1≤c.1.length∧c.1.length≤16)∧(1≤c.2.1∧c.2.1≤1048576)∧(c.2.2.1.length=0∨c.2.2.1.length=32)∧c.2.2.2.1.length=32∧0≤c.2.2.2.2.1∧c.2.2.2.2.1≤256)∧vdM c.2.2.2.2.2.1∧c.2.2.2.2.2.2.length≤256∧∀ p∈c.2.2.2.2.2.2,pfM p
namespace Codec
end Codec
end Go.Proofs.YthamoeekiglphaaGreatDoor
namespace Go.Proofs.YthamoeekiglphaaGreatDoor
set_option maxRecDepth 100000
open Go.RowKit
set_option linter.unusedVariables false
attribute [local go_sem] ba_size
abbrev PVt:=Int × Ev × Value
def pfV (x:PVt):List Value:=[.int .i64 x.1,.int .i64 x.2.1.1,.int .i64 x.2.1.2.1,.string ⟨x.2.1.2.2.1.toArray⟩,.string ⟨x.2.1.2.2.2.toArray⟩,x.2.2]
theorem pfV_len (x:PVt):(pfV x).length=6:=rfl
structure PfAt (W:World) (x:PVt) (p:Pf):Prop where
 at_:x.1=p.1
 ev_:x.2.1=p.2.1
 path:IsTxt W x.2.2 p.2.2
def PfOf (W:World) (L':List PVt) (L:List Pf):Prop:=L'.length=L.length∧∀ (i:Nat) x s,L'[i]?=some x→L[i]?=some s→PfAt W x s
def IsPfs (W:World) (v:Value) (L:List Pf):Prop:=∃ L',IsRec 6 pfV W v L'∧PfOf W L' L
theorem PfOf.below {W W':World} {L':List PVt} {L:List Pf} (h:PfOf W L' L) (hb:Below W.heap.size W W'):PfOf W' L' L :=
 ⟨h.1,fun i x s hx hs=>⟨(h.2 i x s hx hs).at_,(h.2 i x s hx hs).ev_,(h.2 i x s hx hs).path.below hb⟩⟩
theorem PfOf.nil (W:World):PfOf W [] []:=⟨rfl,fun i x s h=>by simp at h⟩
theorem IsPfs.below {W W':World} {v:Value} {L:List Pf} (h:IsPfs W v L) (hb:Below W.heap.size W W'):IsPfs W' v L:=by
 obtain ⟨L',h1,h2⟩:=h;exact ⟨L',h1.below hb,h2.below hb⟩
theorem IsPfs.len {W:World} {v:Value} {L:List Pf} (h:IsPfs W v L):∃ a cap,v=.slice a L.length cap∧L.length≤cap∧cap≤9223372036854775807∧L.length≤140737488351232:=by
 obtain ⟨L',h1,h2⟩:=h;obtain ⟨a,cap,rfl,a1,a2,a3,_⟩:=h1.some_at;rw [h2.1] at a1 a3 ⊢;exact ⟨a,cap,rfl,a1,a2,a3⟩
theorem IsPfs.reads {W:World} {v:Value} {L:List Pf} (h:IsPfs W v L):∃ a cap,v=.slice a L.length cap∧L.length≤cap∧cap≤9223372036854775807∧L.length≤140737488351232 ∧
 Hid (∀ k (hk:k < L.length),∃ b off,a=some ⟨b,off,none⟩∧∃ u,IsTxt W u L[k].2.2∧∀ V,Below W.heap.size W V→V.cell? ⟨b,off+k*6,none⟩=some (.int .i64 L[k].1)∧V.cell? ⟨b,off+k*6+1,none⟩=some (.int .i64 L[k].2.1.1)∧V.cell? ⟨b,off+k*6+2,none⟩=some (.int .i64 L[k].2.1.2.1)∧V.cell? ⟨b,off+k*6+3,none⟩=some (.string ⟨L[k].2.1.2.2.1.toArray⟩)∧V.cell? ⟨b,off+k*6+4,none⟩=some (.string ⟨L[k].2.1.2.2.2.toArray⟩)∧V.cell? ⟨b,off+k*6+5,none⟩=some u):=by
 obtain ⟨L',h1,h2⟩:=h;obtain ⟨a,cap,rfl,a1,a2,a3,HC⟩:=h1.some_at;have hl:=h2.1;rw [hl] at a1 a3;refine ⟨a,cap,by rw [hl],a1,a2,a3,?_⟩;intro k hk;have hk':k < L'.length:=by omega
 obtain ⟨b,off,rfl,hlt,hc⟩:=HC.out k hk';have g:=h2.2 k _ _ (List.getElem?_eq_getElem hk') (List.getElem?_eq_getElem hk);refine ⟨b,off,rfl,L'[k].2.2,g.path,fun V hV=>?_⟩;rw [← g.at_,← g.ev_];exact ⟨(hV.cell (p:=⟨b,off+k*6,none⟩) hlt).trans (hc 0 _ rfl),(hV.cell (p:=⟨b,off+k*6+1,none⟩) hlt).trans (hc 1 _ rfl),(hV.cell (p:=⟨b,off+k*6+2,none⟩) hlt).trans (hc 2 _ rfl),(hV.cell (p:=⟨b,off+k*6+3,none⟩) hlt).trans (hc 3 _ rfl),(hV.cell (p:=⟨b,off+k*6+4,none⟩) hlt).trans (hc 4 _ rfl),(hV.cell (p:=⟨b,off+k*6+5,none⟩) hlt).trans (hc 5 _ rfl)⟩
abbrev ctC (c:Ct) (vo vr vp:Value):Array Value:=#[.string ⟨c.1.toArray⟩,.int .i64 c.2.1,.string ⟨c.2.2.1.toArray⟩,.string ⟨c.2.2.2.1.toArray⟩,.int .i64 c.2.2.2.2.1,.int .i64 c.2.2.2.2.2.1.1,.bool c.2.2.2.2.2.1.2.1,vo,.int .i64 c.2.2.2.2.2.1.2.2.2.1.1,.int .i64 c.2.2.2.2.2.1.2.2.2.1.2.1,.int .i64 c.2.2.2.2.2.1.2.2.2.1.2.2,vr,vp]
structure CtAt (W:World) (c:Ct) (vo vr vp:Value):Prop where
 order:IsInts W vo c.2.2.2.2.2.1.2.2.1
 ring:IsEds W vr c.2.2.2.2.2.1.2.2.2.2
 proofs:IsPfs W vp c.2.2.2.2.2.2
theorem CtAt.below {W W':World} {c:Ct} {vo vr vp:Value} (h:CtAt W c vo vr vp) (hb:Below W.heap.size W W'):CtAt W' c vo vr vp:=⟨h.order.below hb,h.ring.below hb,h.proofs.below hb⟩
def CtRes (w:World) (r:Ct × Int) (e:Ending) (w':World):Prop:=∃ vo vr vp,e=.returned (.tuple #[.agg (ctC r.1 vo vr vp),.int .i64 r.2])∧Below w.heap.size w w'∧CtAt w' r.1 vo vr vp
open Go.ChangeShapes Go.WideShapes Go.ChangeAt Go.RowKit
theorem pf_elem {H:Type} {enc:TypeId × Value→H} {W:World} (n:Nat) (cs':List Value) (d':DataW H) (p':List MemPlace) (hl:cs'.length=6) (h:DataW.trod enc Tryz.prog W 0 (fun _=>true) true n 55 cs'=some (d',p')) (hw:(DataW.weights Tryz.prog 55 d').all (·≤ reachBytes)=true) :
 ∃ x:PVt,cs'=pfV x∧∃ P,IsTxt W x.2.2 P:=by
 have hu:=Tryz.underlying55;obtain ⟨xs,k,_,hx,hcl,hlen,hel⟩:=DataW.trod_struct hu h;have hlen':xs.length=3:=hlen
 match xs,hlen',cs',hl with
 | [y0,y1,y2],_,[c0,c1,c2,c3,c4,c5],_ =>
   have k3:Tryz.prog.cellsOf 3=1:=by kernel_rfl
   have kE:Tryz.prog.cellsOf 53=4:=by kernel_rfl
   have k5:Tryz.prog.cellsOf 45=1:=by kernel_rfl
   have g0:=hel 0 _ rfl;have g1:=hel 1 _ rfl;have g2:=hel 2 _ rfl;simp [k3,kE,k5] at g0 g1 g2;have hd:=congrArg Prod.fst hx;simp at hd;subst hd;simp only [DataW.weights,hu,List.map_cons,List.map_nil] at hw;simp only [DataW.weightsEach,List.append_nil,List.all_append,Bool.and_eq_true] at hw;obtain ⟨n0,e0,r0,w0⟩:=DataW.trod_int Tryz.underlying3 g0;obtain ⟨x,hx2,hg⟩:=ev_elem Tryz.underlying53 (by kernel_rfl) (by kernel_rfl) (by kernel_rfl) (by kernel_rfl) (by kernel_rfl) _ [c1,c2,c3,c4] y1.1 y1.2 rfl g1 hw.2.1;simp at e0;subst e0;unfold evV at hx2;simp only [List.cons.injEq,and_true] at hx2;obtain ⟨rfl,rfl,rfl,rfl⟩:=hx2;obtain ⟨P,hP,_⟩:=txt_cells (d:=y2.1) (p:=y2.2) g2 hw.2.2;exact ⟨(n0,x,c5),rfl,P,hP⟩
theorem pf_list {W:World}:∀ (L':List PVt),(∀ x∈L',∃ P,IsTxt W x.2.2 P)→∃ L:List Pf,PfOf W L' L
 | [],_=>⟨[],PfOf.nil W⟩
 | y::L',h=>by
   obtain ⟨L,h1⟩:=pf_list L' (fun x hx=>h x (List.mem_cons_of_mem _ hx));obtain ⟨P,hP⟩:=h y (List.mem_cons_self ..);refine ⟨(y.1,y.2.1,P)::L,by simp [h1.1],fun i x s hx hs=>?_⟩;cases i with
   | zero =>
     simp at hx hs;subst hx hs;exact ⟨rfl,rfl,hP⟩
   | succ i=>exact h1.2 i x s (by simpa using hx) (by simpa using hs)
theorem pf_cells {H:Type} {enc:TypeId × Value→H} {W:World} {m:Nat} {c:Value} {d:DataW H} {p:List MemPlace}
 (hf:DataW.trod enc Tryz.prog W 0 (fun _=>true) true m 28 [c]=some (d,p)) (hw:(DataW.weights Tryz.prog 28 d).all (·≤ reachBytes)=true):∃ L:List Pf,IsPfs W c L:=by
 obtain ⟨L',h1,h2,_⟩:=rec_cells (sz:=6) (rec:=pfV) (fun x:PVt=>∃ P,IsTxt W x.2.2 P) 80 Tryz.underlying28 (by kernel_rfl) (by omega) (by kernel_rfl) (by omega) (fun n cs' d' p' hl h hw'=>pf_elem n cs' d' p' hl h hw') hf hw;obtain ⟨L,g1⟩:=pf_list L' h2;exact ⟨L,L',h1,g1⟩
theorem ct_elem {H:Type} {enc:TypeId × Value→H} {W:World} (n:Nat) (cs':List Value) (d':DataW H) (p':List MemPlace) (hl:cs'.length=13) (h:DataW.trod enc Tryz.prog W 0 (fun _=>true) true n 30 cs'=some (d',p')) (hw:(DataW.weights Tryz.prog 30 d').all (·≤ reachBytes)=true) :
 ∃ (c:Ct) (vo vr vp:Value),cs'=(ctC c vo vr vp).toList∧CtAt W c vo vr vp:=by
 have hu:=Tryz.underlying30;obtain ⟨xs,k,_,hx,hcl,hlen,hel⟩:=DataW.trod_struct hu h;have hlen':xs.length=7:=hlen
 match xs,hlen',cs',hl with
 | [y0,y1,y2,y3,y4,y5,y6],_,[c0,c1,c2,c3,c4,c5,c6,c7,c8,c9,c10,c11,c12],_ =>
   have k3:Tryz.prog.cellsOf 3=1:=by kernel_rfl
   have k9:Tryz.prog.cellsOf 9=1:=by kernel_rfl
   have kV:Tryz.prog.cellsOf 27=7:=by kernel_rfl
   have kP:Tryz.prog.cellsOf 28=1:=by kernel_rfl
   have g0:=hel 0 _ rfl;have g1:=hel 1 _ rfl;have g2:=hel 2 _ rfl;have g3:=hel 3 _ rfl;have g4:=hel 4 _ rfl;have g5:=hel 5 _ rfl;have g6:=hel 6 _ rfl;simp [k3,k9,kV,kP] at g0 g1 g2 g3 g4 g5 g6;have hd:=congrArg Prod.fst hx;simp at hd;subst hd;simp only [DataW.weights,hu,List.map_cons,List.map_nil] at hw;simp only [DataW.weightsEach,List.append_nil,List.all_append,Bool.and_eq_true] at hw;obtain ⟨s0,e0,r0,w0⟩:=DataW.trod_string Tryz.underlying9 g0;obtain ⟨n1,e1,r1,w1⟩:=DataW.trod_int Tryz.underlying3 g1;obtain ⟨s2,e2,r2,w2⟩:=DataW.trod_string Tryz.underlying9 g2;obtain ⟨s3,e3,r3,w3⟩:=DataW.trod_string Tryz.underlying9 g3;obtain ⟨n4,e4,r4,w4⟩:=DataW.trod_int Tryz.underlying3 g4;obtain ⟨x,vo,vr,hx5,ho,hr,_⟩:=vd_elem13 _ _ y5.1 y5.2 rfl g5 hw.2.2.2.2.2.1
   obtain ⟨P,hP⟩:=pf_cells (d:=y6.1) (p:=y6.2) g6 hw.2.2.2.2.2.2;simp at e0 e1 e2 e3 e4;subst e0 e1 e2 e3 e4;simp only [List.cons.injEq,and_true] at hx5;obtain ⟨rfl,rfl,rfl,rfl,rfl,rfl,rfl⟩:=hx5;exact ⟨(s0.data.toList,n1,s2.data.toList,s3.data.toList,n4,x,P),c7,c11,c12,rfl,ho,hr,hP⟩
theorem ct_val {H:Type} {enc:TypeId × Value→H} {W:World} {r:Reach} {b0:Nat} {v:Value} {d:DataW H} {p:List MemPlace} (hv:Value.okWide Tryz.prog W r b0 30 v)
 (h:DataW.Trod enc Tryz.prog W 0 (fun _=>true) true 30 v d p) (hw:(DataW.weights Tryz.prog 30 d).all (·≤ reachBytes)=true):∃ (c:Ct) (vo vr vp:Value),v=.agg (ctC c vo vr vp)∧CtAt W c vo vr vp:=by
 obtain ⟨cs,rfl,hsz⟩:=okWide_struct Tryz.underlying30 hv;obtain ⟨fuel,hf⟩:=h;have hc:Tryz.prog.cellsOf 30=13:=by kernel_rfl
 obtain ⟨c,vo,vr,vp,hx,h1⟩:=ct_elem fuel cs.toList d p (by rw [Array.length_toList,hsz,hc]) (by simpa [Value.cells] using hf) hw;refine ⟨c,vo,vr,vp,?_,h1⟩;have:cs=ctC c vo vr vp:=Array.toList_inj.1 hx;rw [this]
end Go.Proofs.YthamoeekiglphaaGreatDoor
namespace Go.Proofs.YthamoeekiglphaaGreatDoor
set_option maxRecDepth 100000
set_option linter.unusedVariables false
abbrev Pe:=Int × Ev
def peAt (l:List Pe) (i:Int):Option Pe:=l.find? fun p=>decide (p.1=i)
def peEnd (l:List Pe) (t:Int):Option Pe:=l.find? fun p=>decide (p.2.2.1=t∧(p.2.1=4∨p.2.1=5))
def peComm (l:List Pe) (t:Int):Option Int :=
 match peEnd l t with
 | none=>none
 | some p=>if p.2.1=4∧0≤p.1 then some p.1 else none
def peWr (l:List Pe) (key val:List UInt8):Option Pe:=l.find? fun p=>decide (p.2.1=3∧p.2.2.2.1=key∧p.2.2.2.2=val)
def trueOf (h:List Ev) (l:List Pe):Prop:=∀ p∈l,∃ i:Nat,p.1=(i:Int)∧i < h.length∧p.2=ev h i
def endsOnce (h:List Ev):Prop:=∀ i j,i < h.length→j < h.length→((ev h i).1=4∨(ev h i).1=5)→((ev h j).1=4∨(ev h j).1=5)→(ev h i).2.1=(ev h j).2.1→i=j
def valsOnce (h:List Ev):Prop:=∀ i j,i < h.length→j < h.length→(ev h i).1=3→(ev h j).1=3→(ev h i).2.2.2=(ev h j).2.2.2→i=j
theorem wf_endsOnce {h:List Ev} (hw:WF h):endsOnce h:=by
 intro i j hi hj h1 h2 ht;obtain ⟨f,e,_,e1,_,_,_,_,e2⟩:=wf_life hw hi;obtain ⟨f',e',_,e1',_,_,_,_,e2'⟩:=wf_life hw hj;rw [ht,e1'] at e1;cases e1;have a:=e2.1 (by rcases h1 with h | h<;>rw [h]<;>decide);have b:=e2'.1 (by rcases h2 with h | h<;>rw [h]<;>decide);omega
theorem wf_valsOnce {h:List Ev} (hw:WF h):valsOnce h:=fun i j hi hj h1 h2 hv=>wr_one hw hi hj h1 h2 hv
section
variable {h:List Ev} {l:List Pe}
theorem peAt_true (ht:trueOf h l) {i:Int} {p:Pe} (hp:peAt l i=some p):∃ k:Nat,i=(k:Int)∧k < h.length∧p.2=ev h k:=by
 have h1:=List.find?_some hp;obtain ⟨k,k1,k2,k3⟩:=ht p (List.mem_of_find?_eq_some hp);exact ⟨k,by rw [← k1];exact (of_decide_eq_true h1).symm,k2,k3⟩
theorem peEnd_true (ht:trueOf h l) {t:Int} {p:Pe} (hp:peEnd l t=some p):∃ k:Nat,p.1=(k:Int)∧k < h.length∧p.2=ev h k∧(ev h k).2.1=t∧((ev h k).1=4∨(ev h k).1=5):=by
 have h1:=List.find?_some hp;simp only [decide_eq_true_eq] at h1;obtain ⟨k,k1,k2,k3⟩:=ht p (List.mem_of_find?_eq_some hp);exact ⟨k,k1,k2,k3,by rw [← k3];exact h1.1,by rw [← k3];exact h1.2⟩
theorem peComm_true (ht:trueOf h l) (he:endsOnce h) {t c:Int} (hc:peComm l t=some c):∃ k:Nat,c=(k:Int)∧commL h t=some k:=by
 unfold peComm at hc;cases hp:peEnd l t with
 | none=>rw [hp] at hc;cases hc
 | some p =>
   rw [hp] at hc;simp only at hc
   by_cases h4:p.2.1=4∧0≤p.1
   ·rw [if_pos h4] at hc
    cases hc;obtain ⟨k,k1,k2,k3,k4,k5⟩:=peEnd_true ht hp;refine ⟨k,k1,(commL_some _ _ _).2 ⟨(endL_some _ _ _ _).2 ⟨k2,⟨k4,k5⟩,fun j hj hb=>?_⟩,by rw [← k3];exact h4.1⟩⟩;have:=he j k (by omega) k2 hb.2 k5 (by rw [hb.1,k4]);omega
   ·rw [if_neg h4] at hc;cases hc
theorem peWr_true (ht:trueOf h l) (hv:valsOnce h) {key val:List UInt8} {p:Pe} (hp:peWr l key val=some p):∃ k:Nat,p.1=(k:Int)∧p.2=ev h k∧writerL h key val=some k:=by
 have h1:=List.find?_some hp;simp only [decide_eq_true_eq] at h1;obtain ⟨k,k1,k2,k3⟩:=ht p (List.mem_of_find?_eq_some hp);rw [k3] at h1;refine ⟨k,k1,k3,(writerL_some _ _ _ _).2 ⟨k2,h1,fun j hj hb=>?_⟩⟩;have:=hv j k (by omega) k2 hb.1 h1.1 (by rw [hb.2.2,h1.2.2]);omega
end
def edgeShows (l:List Pe) (e:Ed):Prop :=
 ∃ x y a b,peAt l e.2.2.2.1=some x∧peAt l e.2.2.2.2=some y∧peComm l e.2.1=some a∧peComm l e.2.2.1=some b∧e.2.1≠e.2.2.1∧x.2.2.1=e.2.1∧y.2.2.1=e.2.2.1∧x.2.2.2.1=y.2.2.2.1 ∧
 ((e.1=1∧x.2.1=3∧y.2.1=3∧a < b)∨(e.1=2∧x.2.1=3∧y.2.1=2∧x.2.2.2.2=y.2.2.2.2) ∨
  (e.1=3∧x.2.1=2∧y.2.1=3∧(x.2.2.2.2=[]∨∃ w c,peWr l x.2.2.2.1 x.2.2.2.2=some w∧w.2.2.1≠e.2.2.1∧peComm l w.2.2.1=some c∧c < b)))
theorem edge_holds {h:List Ev} {l:List Pe} (ht:trueOf h l) (he:endsOnce h) (hv:valsOnce h) (e:Ed) (hs:edgeShows l e):holdsL h e:=by
 obtain ⟨x,y,a,b,hx,hy,ha,hb,hne,tx',ty',hk,hcase⟩:=hs;obtain ⟨i,i1,i2,i3⟩:=peAt_true ht hx;obtain ⟨j,j1,j2,j3⟩:=peAt_true ht hy;obtain ⟨a',a1,a2⟩:=peComm_true ht he ha;obtain ⟨b',b1,b2⟩:=peComm_true ht he hb;rw [i3] at tx' hk hcase;rw [j3] at ty' hk hcase;refine ⟨a',b',i,j,a2,b2,hne,i1,j1,i2,j2,hk,tx',ty',?_⟩;rcases hcase with ⟨h1,h2,h3,h4⟩ | h' | ⟨h1,h2,h3,h4⟩
 ·exact .inl ⟨h1,h2,h3,by omega⟩
 ·exact .inr (.inl h')
 ·refine .inr (.inr ⟨h1,h2,h3,?_⟩)
  rcases h4 with h4 | ⟨w,c,w1,w2,w3,w4⟩
  ·exact .inl h4
  ·right
   obtain ⟨k,k1,k2,k3⟩:=peWr_true ht hv w1;rw [k2] at w2 w3;obtain ⟨c',c1,c2⟩:=peComm_true ht he w3;exact ⟨k,c',k3,w2,c2,by omega⟩
def badShows (l:List Pe) (b:Int × Int × Int):Prop :=
 0≤b.2.1∧∃ x y c,peAt l b.2.1=some x∧peAt l b.2.2=some y∧x.2.1=2∧y.2.1=3∧x.2.2.2.1=y.2.2.2.1∧peComm l x.2.2.1=some c∧b.2.1 < c ∧
 ((b.1=1∧y.2.2.2.2=x.2.2.2.2∧y.2.2.1≠x.2.2.1∧∃ e,peEnd l y.2.2.1=some e∧e.2.1=5) ∨
  (b.1=2∧y.2.2.1≠x.2.2.1∧y.2.2.2.2≠x.2.2.2.2∧x.2.2.2.2≠[]∧∃ w,peWr l x.2.2.2.1 x.2.2.2.2=some w∧w.1 < b.2.2∧w.2.2.1=y.2.2.1) ∨
  (b.1=3∧y.2.2.1=x.2.2.1∧b.2.2 < b.2.1∧y.2.2.2.2≠x.2.2.2.2∧(x.2.2.2.2=[]∨∃ w,peWr l x.2.2.2.1 x.2.2.2.2=some w∧(w.2.2.1≠x.2.2.1∨w.1 < b.2.2∨b.2.1 < w.1))) ∨
  (b.1=4∧y.2.2.1=x.2.2.1∧b.2.1 < b.2.2∧y.2.2.2.2=x.2.2.2.2))
theorem bad_tainted {h:List Ev} (hw:WF h) {l:List Pe} (ht:trueOf h l) (b:Int × Int × Int) (hs:badShows l b):¬ clean h:=by
 intro hcl;obtain ⟨h0,x,y,c,hx,hy,x2,y3,hk,hc,hbc,hcase⟩:=hs;have he:=wf_endsOnce hw;have hv:=wf_valsOnce hw;obtain ⟨i,i1,i2,i3⟩:=peAt_true ht hx;obtain ⟨j,j1,j2,j3⟩:=peAt_true ht hy;obtain ⟨c',c1,c2⟩:=peComm_true ht he hc;rw [i3] at x2 hk c2 hcase;rw [j3] at y3 hk hcase;have hcount:countsL h i:=⟨i2,x2,c',c2,by omega⟩;have jne:=wr_nonempty hw j2 y3
 have own:∀ k,lastN h (ev h i).2.1 (ev h i).2.2.1 i=some k→k < i∧(ev h k).1=3∧(ev h k).2.1=(ev h i).2.1∧(ev h k).2.2.2=(ev h i).2.2.2:=fun k hk'=>by
  obtain ⟨l1,l2,_⟩:=(lastN_some _ _ _ _ _).1 hk';exact ⟨l1,l2.1,l2.2.1,clean_own hcl hcount hk'⟩
 have wr:(ev h i).2.2.2=(ev h j).2.2.2→writerL h (ev h i).2.2.1 (ev h i).2.2.2=some j:=fun hh=>by
  have:=writer_is hw j2 y3;rw [← hk,← hh] at this;exact this
 rcases hcase with ⟨_,hval,htx,e,he1,he5⟩ | ⟨_,htx,hval,hne,w,hw1,hw2,hw3⟩ | ⟨_,htx,hlt,hval,hor⟩ | ⟨_,htx,hlt,hval⟩
 ·cases hl:lastN h (ev h i).2.1 (ev h i).2.2.1 i with
  | some k =>
    obtain ⟨k1,k2,k3,k4⟩:=own k hl;have:=hv k j (by omega) j2 k2 y3 (by rw [k4,hval]);rw [this] at k3;exact htx k3
  | none =>
    obtain ⟨_,e',o2,_⟩:=clean_other hcl hcount hl (by rw [← hval];exact jne) (wr hval.symm);obtain ⟨q,q1,q2,q3,q4,q5⟩:=peEnd_true ht he1;obtain ⟨p1,p2⟩:=(commL_some _ _ _).1 o2;obtain ⟨r1,r2,r3⟩:=(endL_some _ _ _ _).1 p1;have:=he q e' q2 r1 q5 r2.2 (by rw [q4,r2.1]);rw [q3,this,p2] at he5;exact absurd he5 (by decide)
 ·obtain ⟨q,q1,q2,q3⟩:=peWr_true ht hv hw1
  rw [q2] at hw3;obtain ⟨s1,s2,_⟩:=(writerL_some _ _ _ _).1 q3;cases hl:lastN h (ev h i).2.1 (ev h i).2.2.1 i with
  | some k =>
    obtain ⟨k1,k2,k3,k4⟩:=own k hl;have:=hv k q (by omega) s1 k2 s2.1 (by rw [k4,s2.2.2]);rw [← this,k3] at hw3;exact htx hw3.symm
  | none =>
    obtain ⟨_,e',o2,o3⟩:=clean_other hcl hcount hl hne q3;obtain ⟨l1,l2,l3⟩:=(lastN_some _ _ _ _ _).1 o3;obtain ⟨p1,p2⟩:=(commL_some _ _ _).1 o2;obtain ⟨f,e'',_,g1,_,g2,_,_,g3⟩:=wf_life hw j2;rw [← hw3,p1] at g1;cases g1;have hje:j≠e':=fun hh=>by rw [hh,p2] at y3;cases y3
    exact l3 j (by omega) (by omega) ⟨y3,hw3.symm,hk.symm⟩
 ·cases hl:lastN h (ev h i).2.1 (ev h i).2.2.1 i with
  | none=>exact (lastN_none _ _ _ _).1 hl j (by omega) ⟨y3,htx,hk.symm⟩
  | some k =>
    obtain ⟨k1,k2,k3,k4⟩:=own k hl;obtain ⟨l1,l2,l3⟩:=(lastN_some _ _ _ _ _).1 hl
    have hjk:j < k:=by
     rcases Nat.lt_trichotomy j k with hh | hh | hh
     ·exact hh
     ·rw [hh] at hval;exact absurd k4 hval
     ·exact absurd ⟨y3,htx,hk.symm⟩ (l3 j hh (by omega))
    rcases hor with hor | ⟨w,w1,w2⟩
    ·exact wr_nonempty hw (by omega) k2 (by rw [k4,hor])
    ·obtain ⟨q,q1,q2,q3⟩:=peWr_true ht hv w1
     obtain ⟨s1,s2,_⟩:=(writerL_some _ _ _ _).1 q3;have:=hv k q (by omega) s1 k2 s2.1 (by rw [k4,s2.2.2]);rw [q2,← this] at w2;rcases w2 with w2 | w2 | w2
     ·exact w2 k3
     ·omega
     ·omega
 ·cases hl:lastN h (ev h i).2.1 (ev h i).2.2.1 i with
  | some k =>
    obtain ⟨k1,k2,k3,k4⟩:=own k hl;have:=hv k j (by omega) j2 k2 y3 (by rw [k4,hval]);omega
  | none =>
    obtain ⟨o1,_⟩:=clean_other hcl hcount hl (by rw [← hval];exact jne) (wr hval.symm);exact o1 htx
end Go.Proofs.YthamoeekiglphaaGreatDoor
