/-
  Steps of edges, rings of what holds, what is good, in lists: of no program. A region that draws its order, some of whose operations read what nothing ahead of o
-/
import Derived.Test.YtdlcimfifkhllaaGreatCL0a
import Derived.RangeFuncCalls
import Derived.OrdersIn
import Derived.TacticsIn
import Derived.RangeFuncNested
import Derived.RangeFuncBound
import Derived.RangeFuncLeaves
import Derived.RangeFuncBox
import Derived.Shelf.Abstract
import Derived.Shelf.RegionOpen
import Derived.OwnWalkIn
import Derived.TacticsInMore
import Derived.LoopNIn
import Derived.LoopIn
namespace Go.Proofs.YtdlcimfifkhllaaGreat
set_option maxRecDepth 100000
set_option linter.unusedVariables false
abbrev Stp:=Sp (List Ed)
def one1 (e:Ed):Stp:=(e.2.1,e.2.2.1,[e])
def two2 (e g:Ed):Stp:=(e.2.1,g.2.2.1,[e,g])
def stepOf (level:Int) (l:List Ed) (e:Ed):List Stp :=
 (if level=1∨level=2∧e.1≠3 then [one1 e] else [])++(if level=2∧e.1≠3 then l.filterMap fun g=>if g.1=3∧g.2.1=e.2.2.1 then some (two2 e g) else none else [])
def stepsL (level:Int) (l:List Ed):List Stp:=l.flatMap (stepOf level l)
theorem steps_one (level:Int) (l:List Ed) (e:Ed) (he:e∈l) (h:level=1∨level=2∧e.1≠3):one1 e∈stepsL level l:=by
 refine List.mem_flatMap.2 ⟨e,he,List.mem_append.2 (.inl ?_)⟩
 rw [if_pos h];exact List.mem_singleton.2 rfl
theorem steps_two (l:List Ed) (e g:Ed) (he:e∈l) (hg:g∈l) (h3:e.1≠3) (g3:g.1=3) (hm:g.2.1=e.2.2.1):two2 e g∈stepsL 2 l:=by
 refine List.mem_flatMap.2 ⟨e,he,List.mem_append.2 (.inr ?_)⟩
 rw [if_pos ⟨rfl,h3⟩]
 exact List.mem_filterMap.2 ⟨g,hg,by rw [if_pos ⟨g3,hm⟩]⟩
theorem steps_cases (level:Int) (l:List Ed) (s:Stp) (hs:s∈stepsL level l):(∃ e∈l,(level=1∨level=2∧e.1≠3)∧s=one1 e)∨(level=2∧∃ e∈l,∃ g∈l,e.1≠3∧g.1=3∧g.2.1=e.2.2.1∧s=two2 e g):=by
 obtain ⟨e,he,h⟩:=List.mem_flatMap.1 hs
 rcases List.mem_append.1 h with h | h
 ·left
  by_cases hc:level=1∨level=2∧e.1≠3
  ·rw [if_pos hc,List.mem_singleton] at h;exact ⟨e,he,hc,h⟩
  ·rw [if_neg hc] at h;cases h
 ·right
  by_cases hc:level=2∧e.1≠3
  ·rw [if_pos hc] at h
   obtain ⟨g,hg,h⟩:=List.mem_filterMap.1 h
   by_cases h3:g.1=3∧g.2.1=e.2.2.1
   ·rw [if_pos h3] at h;exact ⟨hc.1,e,he,g,hg,hc.2,h3.1,h3.2,(Option.some.inj h).symm⟩
   ·rw [if_neg h3] at h;cases h
  ·rw [if_neg hc] at h;cases h
def relE (level:Int) (x y:Ed):Prop:=x.2.2.1=y.2.1∧¬ (level=2∧x.1=3∧y.1=3)
def chainR (level:Int):List Ed→Ed→Prop
 | [],_=>True
 | [e],f=>relE level e f
 | e::e'::r,f=>relE level e e'∧chainR level (e'::r) f
def cyc (level:Int):List Ed→Prop
 | []=>False
 | e::r=>chainR level (e::r) e
theorem chainR_snoc (level:Int):∀ (r:List Ed) (e f g:Ed),chainR level (r++[e]) f→relE level f g→chainR level (r++[e,f]) g
 | [],e,f,g,h,k=>⟨h,k⟩
 | [a],e,f,g,h,k=>⟨h.1,h.2,k⟩
 | a::b::r,e,f,g,h,k=>⟨h.1,chainR_snoc level (b::r) e f g h.2 k⟩
theorem cyc_turn (level:Int) (e:Ed) (r:List Ed) (h:cyc level (e::r)):cyc level (r++[e]):=by
 match r,h with
 | [],h=>exact h
 | a::r,h =>
   have hc:chainR level (e::a::r) e:=h
   show chainR level (a::(r++[e])) a
   have h1:relE level e a:=hc.1
   have h2:chainR level (a::r) e:=hc.2
   rcases List.eq_nil_or_concat r with rfl | ⟨q,z,rfl⟩
   ·exact ⟨h2,h1⟩
   ·have h2':chainR level ((a::q)++[z]) e:=by simpa using h2
    have:=chainR_snoc level (a::q) z e a h2' h1
    simpa using this
def wayNI (l:List Ed) (a:Int):Nat→Int→Prop
 | 0,b=>∃ e:Ed,e∈l∧e.1≠3∧e.2.1=a∧b=e.2.2.1
 | n+1,b=>∃ e:Ed,e∈l∧e.1≠3∧wayNI l a n e.2.1∧b=e.2.2.1
def WayN (l:List Ed) (a b:Int):Prop:=∃ n,wayNI l a n b
theorem WayN.one {l:List Ed} {a:Int} (e:Ed) (h1:e∈l) (h2:e.1≠3) (h3:e.2.1=a):WayN l a e.2.2.1:=⟨0,e,h1,h2,h3,rfl⟩
theorem WayN.go {l:List Ed} {a:Int} (e:Ed) (h1:e∈l) (h2:e.1≠3) (h3:WayN l a e.2.1):WayN l a e.2.2.1:=by
 obtain ⟨n,hn⟩:=h3
 exact ⟨n+1,e,h1,h2,hn,rfl⟩
theorem WayN.elim {l:List Ed} {a:Int} {motive:(b:Int)→WayN l a b→Prop} (one:∀ (e:Ed) (h1:e∈l) (h2:e.1≠3) (h3:e.2.1=a),motive e.2.2.1 (WayN.one e h1 h2 h3)) (go:∀ (e:Ed) (h1:e∈l) (h2:e.1≠3) (h3:WayN l a e.2.1),motive e.2.1 h3→motive e.2.2.1 (WayN.go e h1 h2 h3)) {b:Int} (h:WayN l a b):motive b h:=by
 obtain ⟨n,hn⟩:=h
 induction n generalizing b with
 | zero =>
   obtain ⟨e,h1,h2,h3,rfl⟩:=hn
   exact one e h1 h2 h3
 | succ n ih =>
   obtain ⟨e,h1,h2,h3,rfl⟩:=hn
   exact go e h1 h2 ⟨n,h3⟩ (ih h3)
theorem v_wayN (h:List Ev) (key:List UInt8) (n:Nat):∀ m,n < m→m < (versL h key).length→WayN (edgesL h) (tx h (vAt (versL h key) n)) (tx h (vAt (versL h key) m))
 | 0,hnm,hm=>by omega
 | m+1,hnm,hm=>by
   have he:=w_edge h key (ver_key h key _ hm) m hm
   rcases Nat.lt_or_ge n m with hh | hh
   ·exact .go _ he (by simp) (v_wayN h key n m hh (by omega))
   ·obtain rfl:n=m:=by omega
    exact .one _ he (by simp) rfl
theorem follow_kinds {h:List Ev} (hw:WF h) (hcl:clean h) (e:Ed) (he:holdsL h e):WayN (edgesL h) e.2.1 e.2.2.1∨(e.1=3∧∃ g∈edgesL h,g.1=3∧g.2.1=e.2.1∧(g.2.2.1=e.2.2.1∨WayN (edgesL h) g.2.2.1 e.2.2.1)):=by
 obtain ⟨a,b,i,j,ca,cb,hne,hI,hJ,hi,hj,hkey,ti,tj,hcase⟩:=he
 have vers:∀ (t:Int) (c q:Nat),commL h t=some c→q < h.length→(ev h q).1=3→tx h q=t→∃ n,n < (versL h (ev h q).2.2.1).length∧tx h (vAt (versL h (ev h q).2.2.1) n)=t∧srcAt h (ev h q).2.2.1 n=c:=by
  intro t c q hc hq h3 ht
  obtain ⟨c1,c2⟩:=(commL_some _ _ _).1 hc
  obtain ⟨f',e',g0,g1,g2,g3,g4,g5,g6⟩:=wf_life hw hq
  have ht':(ev h q).2.1=t:=ht
  rw [ht',c1] at g1
  cases g1
  have hqe:q≠c:=fun hh=>by rw [hh,c2] at h3;cases h3
  cases hl:lastN h t (ev h q).2.2.1 c with
  | none=>exact absurd ⟨h3,ht,rfl⟩ ((lastN_none _ _ _ _).1 hl q (by omega))
  | some w =>
    obtain ⟨n,n1,n2,n3⟩:=ver_index h (ev h q).2.2.1 t c w hc hl
    refine ⟨n,n1,?_,n3⟩
    rw [n2];exact ((lastN_some _ _ _ _ _).1 hl).2.1.2.1
 have along:∀ (key:List UInt8) (n m:Nat),n < (versL h key).length→m < (versL h key).length→srcAt h key n < srcAt h key m→WayN (edgesL h) (tx h (vAt (versL h key) n)) (tx h (vAt (versL h key) m)):=fun key n m hn hm hlt=>v_wayN h key n m (src_mono h key n m hn hm hlt) hm
 rcases hcase with ⟨_,hi3,hj3,hab⟩ | ⟨_,hi3,hj2,hv⟩ | ⟨he3,hi2,hj3,hv⟩
 ·left
  obtain ⟨n,n1,n2,n3⟩:=vers e.2.1 a i ca hi hi3 ti
  obtain ⟨m,m1,m2,m3⟩:=vers e.2.2.1 b j cb hj hj3 tj
  rw [← hkey] at m1 m2 m3
  have:=along _ n m n1 m1 (by omega)
  rw [n2,m2] at this
  exact this
 ·left
  obtain ⟨f',e',g0,g1,g2,g3,g4,g5,g6⟩:=wf_life hw hj
  have tj':(ev h j).2.1=e.2.2.1:=tj
  have hjb:j < b:=by
   have:=((commL_some _ _ _).1 cb).1
   rw [tj',this] at g1
   cases g1
   have:j≠b:=fun hh=>by have:=((commL_some _ _ _).1 cb).2;rw [← hh,hj2] at this;cases this
   omega
  have hcj:countsL h j:=⟨hj,hj2,b,by rw [tj'];exact cb,hjb⟩
  have hln:lastN h (ev h j).2.1 (ev h j).2.2.1 j=none:=by
   cases hl:lastN h (ev h j).2.1 (ev h j).2.2.1 j with
   | none=>rfl
   | some k =>
     exfalso
     have hk:=clean_own hcl hcj hl
     obtain ⟨l1,l2,_⟩:=(lastN_some _ _ _ _ _).1 hl
     have:k=i:=wr_one hw (by omega) hi l2.1 hi3 (by rw [hk,hv])
     apply hne
     rw [← ti,← tj,← this]
     exact l2.2.1
  have hwr:writerL h (ev h j).2.2.1 (ev h j).2.2.2=some i:=by
   have:=writer_is hw hi hi3
   rw [hkey,hv] at this
   exact this
  have hvne:(ev h j).2.2.2≠[]:=by rw [← hv];exact wr_nonempty hw hi hi3
  obtain ⟨o1,c,o2,o3⟩:=clean_other hcl hcj hln hvne hwr
  obtain ⟨n,n1,n2,n3⟩:=ver_index h (ev h j).2.2.1 (ev h i).2.1 c i o2 o3
  have hva:verAt h (versL h (ev h j).2.2.1) j=some n:=by
   rw [verAt_some]
   refine ⟨n1,by rw [n2,hv],fun q hq hh=>?_⟩
   obtain ⟨r1,r2,r3,r4,r5⟩:=ver_facts h (ev h j).2.2.1 q (by omega)
   have:vAt (versL h (ev h j).2.2.1) q=i:=wr_one hw (by omega) hi r4 hi3 (by rw [hh,hv])
   exact tx_ne h (ev h j).2.2.1 q n hq n1 (by rw [this,n2])
  have hed:=r_edges h j hcj hln (2,tx h i,tx h j,(i:Int),(j:Int)) (by
   unfold rdEdges
   rw [hva]
   refine List.mem_append.2 (.inl ?_)
   unfold rEdge
   rw [n2,if_neg (show ¬ tx h i=tx h j from o1)]
   exact List.mem_singleton.2 rfl)
  have:=WayN.one (a:=tx h i) _ hed (by simp) rfl
  rw [← ti,← tj]
  exact this
 ·obtain ⟨f',e',g0,g1,g2,g3,g4,g5,g6⟩:=wf_life hw hi
  have ti':(ev h i).2.1=e.2.1:=ti
  have hia:i < a:=by
   have:=((commL_some _ _ _).1 ca).1
   rw [ti',this] at g1
   cases g1
   have:i≠a:=fun hh=>by have:=((commL_some _ _ _).1 ca).2;rw [← hh,hi2] at this;cases this
   omega
  have hci:countsL h i:=⟨hi,hi2,a,by rw [ti'];exact ca,hia⟩
  obtain ⟨m,m1,m2,m3⟩:=vers e.2.2.1 b j cb hj hj3 tj
  rw [← hkey] at m1 m2 m3
  have over:∀ n,n≤m→(∀ x:Ed,x∈oEdge h (versL h (ev h i).2.2.1) i n→x∈rdEdges h (versL h (ev h i).2.2.1) i)→lastN h (ev h i).2.1 (ev h i).2.2.1 i=none→WayN (edgesL h) e.2.1 e.2.2.1∨(e.1=3∧∃ g∈edgesL h,g.1=3∧g.2.1=e.2.1∧(g.2.2.1=e.2.2.1∨WayN (edgesL h) g.2.2.1 e.2.2.1)):=by
   intro n hnm hsub hln
   by_cases ht:tx h (vAt (versL h (ev h i).2.2.1) n)=tx h i
   ·left
    rcases Nat.lt_or_ge n m with hh | hh
    ·have:=v_wayN h (ev h i).2.2.1 n m hh m1
     rw [ht,ti,m2] at this
     exact this
    ·exfalso
     obtain rfl:n=m:=by omega
     rw [m2] at ht
     exact hne (by rw [← ti];exact ht.symm)
   ·right
    have hed:=r_edges h i hci hln (3,tx h i,tx h (vAt (versL h (ev h i).2.2.1) n),(i:Int),(vAt (versL h (ev h i).2.2.1) n:Int)) (hsub _ (by
     unfold oEdge
     rw [if_pos ⟨by omega,ht⟩]
     exact List.mem_singleton.2 rfl))
    refine ⟨he3,_,hed,rfl,ti,?_⟩
    rcases Nat.lt_or_ge n m with hh | hh
    ·right
     have:=v_wayN h (ev h i).2.2.1 n m hh m1
     rw [m2] at this
     exact this
    ·left
     obtain rfl:n=m:=by omega
     exact m2
  cases hl:lastN h (ev h i).2.1 (ev h i).2.2.1 i with
  | some k =>
    have hk:=clean_own hcl hci hl
    obtain ⟨l1,l2,_⟩:=(lastN_some _ _ _ _ _).1 hl
    rcases hv with hv | ⟨w,c,w1,w2,w3,w4⟩
    ·exact absurd (by rw [hk,hv]) (wr_nonempty hw (by omega) l2.1)
    ·left
     obtain ⟨p1,p2,_⟩:=(writerL_some _ _ _ _).1 w1
     have hwk:w=k:=wr_one hw p1 (by omega) p2.1 l2.1 (by rw [p2.2.2,hk])
     have htw:tx h w=e.2.1:=by rw [hwk];exact l2.2.1.trans ti
     rw [htw,ca] at w3
     cases w3
     obtain ⟨n,n1,n2,n3⟩:=vers e.2.1 a k ca (by omega) l2.1 (by rw [← hwk];exact htw)
     rw [l2.2.2] at n1 n2 n3
     have:=along _ n m n1 m1 (by omega)
     rw [n2,m2] at this
     exact this
  | none =>
    by_cases hev:(ev h i).2.2.2=[]
    ·have hva:verAt h (versL h (ev h i).2.2.1) i=none:=by
      rw [verAt_none]
      intro q hq hh
      obtain ⟨r1,r2,r3,r4,r5⟩:=ver_facts h (ev h i).2.2.1 q hq
      exact wr_nonempty hw (by omega) r4 (by rw [hh,hev])
     exact over 0 (by omega) (fun x hx=>by unfold rdEdges;rw [hva];simp only;rw [if_pos hev];exact hx) hl
    ·rcases hv with hv | ⟨w,c,w1,w2,w3,w4⟩
     ·exact absurd hv hev
     ·obtain ⟨o1,c',o2,o3⟩:=clean_other hcl hci hl hev w1
      have w3':commL h (ev h w).2.1=some c:=w3
      rw [w3'] at o2
      cases o2
      obtain ⟨p1,p2,_⟩:=(writerL_some _ _ _ _).1 w1
      obtain ⟨n,n1,n2,n3⟩:=ver_index h (ev h i).2.2.1 (ev h w).2.1 c w w3' o3
      have hva:verAt h (versL h (ev h i).2.2.1) i=some n:=by
       rw [verAt_some]
       refine ⟨n1,by rw [n2,p2.2.2],fun q hq hh=>?_⟩
       obtain ⟨r1,r2,r3,r4,r5⟩:=ver_facts h (ev h i).2.2.1 q (by omega)
       have:vAt (versL h (ev h i).2.2.1) q=w:=wr_one hw (by omega) p1 r4 p2.1 (by rw [hh,p2.2.2])
       exact tx_ne h (ev h i).2.2.1 q n hq n1 (by rw [this,n2])
      have hnm:n < m:=src_mono h _ n m n1 m1 (by omega)
      exact over (n+1) (by omega) (fun x hx=>by unfold rdEdges;rw [hva];exact List.mem_append.2 (.inr hx)) hl
def atP (l:List Ed) (a x:Int):Prop:=∃ n,1≤n∧Walk (stepsL 2 l) n a x
def atQ (l:List Ed) (a x:Int):Prop:=∃ e∈l,e.1≠3∧e.2.2.1=x∧∃ n,Walk (stepsL 2 l) n a e.2.1
theorem walk_one (l:List Ed) (s:Stp) (hs:s∈stepsL 2 l) {n:Nat} {a x y:Int} (hw:Walk (stepsL 2 l) n a x) (h1:s.1=x) (h2:s.2.1=y):Walk (stepsL 2 l) (n+1) a y:=by
 have:Walk (stepsL 2 l) 1 x y:=by rw [← h1,← h2];exact .cons s 0 _ hs (.nil _)
 exact hw.append this
theorem q_p {l:List Ed} {a x:Int} (h:atQ l a x):atP l a x:=by
 obtain ⟨e,he,h3,hx,n,hw⟩:=h
 exact ⟨n+1,by omega,walk_one l (one1 e) (steps_one 2 l e he (.inr ⟨rfl,h3⟩)) hw rfl hx⟩
theorem q_over {l:List Ed} {a x:Int} (h:atQ l a x) (g:Ed) (hg:g∈l) (g3:g.1=3) (hx:g.2.1=x):atP l a g.2.2.1:=by
 obtain ⟨e,he,h3,hx',n,hw⟩:=h
 exact ⟨n+1,by omega,walk_one l (two2 e g) (steps_two l e g he hg h3 g3 (by rw [hx,hx'])) hw rfl rfl⟩
theorem walk_wayN {l:List Ed} {a x y:Int} {n:Nat} (hw:Walk (stepsL 2 l) n a x) (h:WayN l x y):atQ l a y:=by
 induction h using WayN.elim with
 | one e he h3 hx=>exact ⟨e,he,h3,rfl,n,by rw [hx];exact hw⟩
 | go e he h3 _ ih =>
   obtain ⟨m,_,hm⟩:=q_p ih
   exact ⟨e,he,h3,rfl,m,hm⟩
theorem round_snap {h:List Ev} (hw:WF h) (hcl:clean h):∀ (r:List Ed) (e f:Ed) (a:Int),(∀ x∈e::r,holdsL h x)→chainR 2 (e::r) f→e.2.1=a∨True→(e.1≠3→∃ n,Walk (stepsL 2 (edgesL h)) n a e.2.1)→(e.1=3→atQ (edgesL h) a e.2.1)→(f.1≠3→atP (edgesL h) a f.2.1):=by
 intro r
 induction r with
 | nil =>
   intro e f a hh hc _ hn h3 hf
   have he:=hh e (List.mem_cons_self ..)
   have hr:e.2.2.1=f.2.1:=hc.1
   rw [← hr]
   by_cases e3:e.1=3
   ·rcases follow_kinds hw hcl e he with hw1 | ⟨_,g,hg,g3,gf,hgo⟩
    ·obtain ⟨n,_,hn'⟩:=q_p (h3 e3)
     exact q_p (walk_wayN hn' hw1)
    ·have hp:=q_over (h3 e3) g hg g3 gf
     rcases hgo with hgo | hgo
     ·rw [← hgo];exact hp
     ·obtain ⟨n,_,hn'⟩:=hp
      exact q_p (walk_wayN hn' hgo)
   ·obtain ⟨n,hn'⟩:=hn e3
    rcases follow_kinds hw hcl e he with hw1 | ⟨e3',_⟩
    ·exact q_p (walk_wayN hn' hw1)
    ·exact absurd e3' e3
 | cons e' r ih =>
   intro e f a hh hc _ hn h3 hf
   have he:=hh e (List.mem_cons_self ..)
   have hr:e.2.2.1=e'.2.1:=hc.1.1
   have hno:¬ (e.1=3∧e'.1=3):=fun hx=>hc.1.2 ⟨rfl,hx.1,hx.2⟩
   refine ih e' f a (fun x hx=>hh x (List.mem_cons_of_mem _ hx)) hc.2 (.inr trivial) (fun e3'=>?_) (fun e3'=>?_) hf
   ·rw [← hr]
    by_cases e3:e.1=3
    ·rcases follow_kinds hw hcl e he with hw1 | ⟨_,g,hg,g3,gf,hgo⟩
     ·obtain ⟨n,_,hn'⟩:=q_p (h3 e3)
      obtain ⟨m,_,hm⟩:=q_p (walk_wayN hn' hw1)
      exact ⟨m,hm⟩
     ·have hp:=q_over (h3 e3) g hg g3 gf
      rcases hgo with hgo | hgo
      ·rw [← hgo];obtain ⟨m,_,hm⟩:=hp;exact ⟨m,hm⟩
      ·obtain ⟨n,_,hn'⟩:=hp
       obtain ⟨m,_,hm⟩:=q_p (walk_wayN hn' hgo)
       exact ⟨m,hm⟩
    ·obtain ⟨n,hn'⟩:=hn e3
     rcases follow_kinds hw hcl e he with hw1 | ⟨e3'',_⟩
     ·obtain ⟨m,_,hm⟩:=q_p (walk_wayN hn' hw1);exact ⟨m,hm⟩
     ·exact absurd e3'' e3
   ·rw [← hr]
    have e3:e.1≠3:=fun hx=>hno ⟨hx,e3'⟩
    obtain ⟨n,hn'⟩:=hn e3
    rcases follow_kinds hw hcl e he with hw1 | ⟨e3'',_⟩
    ·exact walk_wayN hn' hw1
    ·exact absurd e3'' e3
theorem way_walk {l:List Ed} {a b:Int} (h:Way l a b):∃ n,Walk (stepsL 1 l) n a b:=by
 induction h using Way.elim with
 | here=>exact ⟨0,.nil _⟩
 | go e he _ ih =>
   obtain ⟨n,hn⟩:=ih
   have:Walk (stepsL 1 l) 1 e.2.1 e.2.2.1:=.cons (one1 e) 0 _ (steps_one 1 l e he (.inl rfl)) (.nil _)
   exact ⟨n+1,hn.append this⟩
theorem round_serial {h:List Ev} (hw:WF h) (hcl:clean h):∀ (r:List Ed) (e f:Ed) (a:Int),(∀ x∈e::r,holdsL h x)→chainR 1 (e::r) f→(∃ n,Walk (stepsL 1 (edgesL h)) n a e.2.1)→∃ n,1≤n∧Walk (stepsL 1 (edgesL h)) n a f.2.1:=by
 have one:∀ (e:Ed) (a:Int),holdsL h e→(∃ n,Walk (stepsL 1 (edgesL h)) n a e.2.1)→∃ n,1≤n∧Walk (stepsL 1 (edgesL h)) n a e.2.2.1:=by
  intro e a he ⟨n,hn⟩
  obtain ⟨m,hm⟩:=way_walk (edges_follow hw hcl e he)
  have hne:e.2.1≠e.2.2.1:=by obtain ⟨_,_,_,_,_,_,hne,_⟩:=he;exact hne
  have hm1:1≤m:=by
   rcases Nat.eq_zero_or_pos m with hz | hz
   ·exfalso
    rw [hz] at hm
    apply hne
    generalize e.2.1=x at hm
    generalize e.2.2.1=y at hm
    cases hm
    rfl
   ·exact hz
  exact ⟨n+m,by omega,hn.append hm⟩
 intro r
 induction r with
 | nil =>
   intro e f a hh hc hn
   have hr:e.2.2.1=f.2.1:=hc.1
   rw [← hr]
   exact one e a (hh e (List.mem_cons_self ..)) hn
 | cons e' r ih =>
   intro e f a hh hc hn
   have hr:e.2.2.1=e'.2.1:=hc.1.1
   obtain ⟨n,_,hn'⟩:=one e a (hh e (List.mem_cons_self ..)) hn
   exact ih e' f a (fun x hx=>hh x (List.mem_cons_of_mem _ hx)) hc.2 ⟨n,by rw [← hr];exact hn'⟩
theorem round_ring {h:List Ev} (hw:WF h) (hcl:clean h) (level:Int) (hlev:level=1∨level=2) (l:List Ed) (hc:cyc level l) (hh:∀ x∈l,holdsL h x):∃ n a,1≤n∧Walk (stepsL level (edgesL h)) n a a:=by
 match l,hc with
 | e::r,hc =>
   rcases hlev with rfl | rfl
   ·obtain ⟨n,h1,h2⟩:=round_serial hw hcl r e e e.2.1 hh hc ⟨0,.nil _⟩
    exact ⟨n,_,h1,h2⟩
   ·by_cases e3:e.1=3
    ·match r,hc,hh with
     | [],hc,hh=>exact absurd ⟨rfl,e3,e3⟩ hc.2
     | e'::r,hc,hh =>
       have hno:e'.1≠3:=fun hx=>hc.1.2 ⟨rfl,e3,hx⟩
       have ht:=cyc_turn 2 e (e'::r) hc
       obtain ⟨n,h1,h2⟩:=round_snap hw hcl (r++[e]) e' e' e'.2.1 (fun x hx=>hh x (by
        have:x∈e'::r++[e]:=hx
        rcases List.mem_append.1 this with hx | hx
        ·exact List.mem_cons_of_mem _ hx
        ·rw [List.mem_singleton] at hx;rw [hx];exact List.mem_cons_self ..)) ht (.inr trivial) (fun _=>⟨0,.nil _⟩) (fun hx=>absurd hx hno) hno
       exact ⟨n,_,h1,h2⟩
    ·obtain ⟨n,h1,h2⟩:=round_snap hw hcl r e e e.2.1 hh hc (.inr trivial) (fun _=>⟨0,.nil _⟩) (fun hx=>absurd hx e3) e3
     exact ⟨n,_,h1,h2⟩
end Go.Proofs.YtdlcimfifkhllaaGreat
namespace Go.Proofs.YtdlcimfifkhllaaGreat
set_option maxRecDepth 100000
open Go.RowKit
set_option linter.unusedVariables false
section
variable {P:Program} {ops:Array Oper} {md:Region.Mode} {Q:Exit→Act→World→Prop}
def wpAnyC (C:World→Prop) (d:Nat) (P:Program) (md:Region.Mode) (ops:Array Oper) (Q:Exit→Act→World→Prop):Nat→Array Bool→Act→World→Prop
 | 0,listed,a,w=>wpAny P md ops Q 0 listed a w∧(listed.getD d false=false→C w)
 | f+1,listed,a,w=>(listed.getD d false=true∧wpAny P md ops Q (f+1) listed a w) ∨
     (listed.getD d false=false∧C w∧(Region.ready md ops listed=[]→Q .normal a w)∧∀ i∈Region.ready md ops listed,wpOp P ops Q i (wpAnyC C d P md ops Q f (listed.setIfInBounds i true)) a w)
theorem any_of_C {C:World→Prop} (d:Nat):∀ (f:Nat) (listed:Array Bool) (a:Act) (w:World),wpAnyC C d P md ops Q f listed a w→wpAny P md ops Q f listed a w
 | 0,_,_,_,h=>h.1
 | f+1,listed,a,w,h=>by
   rcases h with h | ⟨_,_,h1,h2⟩
   ·exact h.2
   ·exact ⟨h1,fun i hi=>wpOp_mono (fun a' w' h'=>any_of_C d f _ a' w' h') (h2 i hi)⟩
def YieldsC (C:World→Prop) (P:Program) (ops:Array Oper) (o:Oper) (v:Value) (a:Act):Prop :=
 (Region.wanted o (yielded ops a.tmps)=true∧∀ w,C w→(execOp a.eval o).run P w=.ok (.value v) w)∨(Region.wanted o (yielded ops a.tmps)=false∧v=undef)
theorem YieldsC.op {C:World→Prop} {i:Nat} {o:Oper} {v:Value} {a:Act} (hi:ops[i]?=some o) (hy:YieldsC C P ops o v a) {K:Act→World→Prop} {w:World} (hC:C w) (h:K (a.put o.dst v) w):wpOp P ops Q i K a w:=by
 unfold wpOp
 simp only [hi]
 rcases hy with ⟨hw,hv⟩ | ⟨hw,rfl⟩
 ·simp only [hw,if_true,Oper.wp,hv w hC,Oper.upon];exact .inl h
 ·simp only [hw,Bool.false_eq_true,if_false];exact h
theorem YieldsC.same {C:World→Prop} {o:Oper} {v:Value} {a a':Act} (hy:YieldsC C P ops o v a) (he:execOp a'.eval o=execOp a.eval o) (hw:Region.wanted o (yielded ops a'.tmps)=Region.wanted o (yielded ops a.tmps)):YieldsC C P ops o v a':=by
 unfold YieldsC at *
 rw [he,hw]
 exact hy
theorem wpOp_putC {C:World→Prop} {j:Nat} {oi oj:Oper} {v:Value} (hj:ops[j]?=some oj) (hap:oi.apart ops oj=true)
 (hsi:∀ cs b,oi.op≠.select cs b) (hsj:∀ cs b,oj.op≠.select cs b)
 (hQ:∀ c a w,Q (.panic c) (a.put oi.dst v) w→Q (.panic c) a w) {K:Act→World→Prop} {a:Act} {w:World}
 (hy:YieldsC C P ops oi v a) (h:wpOp P ops Q j K (a.put oi.dst v) w) :
 wpOp P ops Q j (fun a' w'=>YieldsC C P ops oi v a'∧K (a'.put oi.dst v) w') a w:=by
 obtain ⟨h1,h2,h3⟩:=Oper.apart_spec hap
 have keep:∀ (a:Act),YieldsC C P ops oi v a→∀ u,YieldsC C P ops oi v (a.put oj.dst u):=fun a hy u=>hy.same (execOp_put oi hsi a oj.dst u h3) (wanted_put oi a oj.dst u h3)
 have keepD:∀ d,YieldsC C P ops oi v { a with defers:=d::a.defers }:=fun d=>hy.same rfl rfl
 unfold wpOp at *
 simp only [hj] at *
 rw [wanted_put oj a oi.dst v h1] at h
 by_cases hw:Region.wanted oj (yielded ops a.tmps)=true
 ·rw [if_pos hw] at h ⊢
  rcases h with h | ⟨hasks,hlets⟩
  case inr=>exact .inr ⟨by unfold Oper.asks at *;rw [execOp_put oj hsj a oi.dst v h1] at hasks;exact hasks,hlets⟩
  refine .inl ?_
  unfold Oper.wp at *
  rw [execOp_put oj hsj a oi.dst v h1] at h
  generalize (execOp a.eval oj).run P w=r at *
  cases r with
  | ok n w' =>
    cases n<;>simp only [Oper.upon] at h ⊢
    case value u=>exact ⟨keep a hy u,by rw [← Act.put_comm a v u h2];exact h⟩
    case skip=>exact ⟨keep a hy _,by rw [← Act.put_comm a v undef h2];exact h⟩
    case defer d =>
     refine ⟨keep _ (keepD d) _,?_⟩
     rw [← Act.put_comm _ v undef h2,← Act.put_defers]
     exact h
    case enter f args =>
     refine Calls.mono h fun e w'' he=>?_
     cases e with
     | returned u=>exact ⟨keep a hy u,by rw [← Act.put_comm a v u h2];exact he⟩
     | panicked c=>exact hQ _ _ _ he
     | outgrown=>exact he
    case row row args=>exact Rows.mono h fun u w'' he=>⟨keep a hy u,by rw [← Act.put_comm a v u h2];exact he⟩
  | halt x w' =>
    cases x<;>simp only [Oper.upon] at h ⊢
    case panic u=>exact hQ _ _ _ h
 ·rw [if_neg hw] at h ⊢
  exact ⟨keep a hy _,by rw [← Act.put_comm a v undef h2];exact h⟩
theorem firstC {C:World→Prop} {d i:Nat} {oi:Oper} {v:Value} (hi:ops[i]?=some oi) (hsel:∀ (j:Nat) (o:Oper) cs b,ops[j]?=some o→o.op≠.select cs b)
 (hdw:Region.waitsFor md ops d i=true) (hQ:∀ c a w,Q (.panic c) (a.put oi.dst v) w→Q (.panic c) a w) :
 ∀ (f:Nat) (listed:Array Bool) (a:Act) (w:World),listed.getD d false=false →
   (∀ j oj,ops[j]?=some oj→j≠i→listed.getD j true=false→(∀ e∈oj.after,Region.binds md e=true→e.on≠i)→oi.apart ops oj=true) →
   i∈Region.ready md ops listed→YieldsC C P ops oi v a →
   wpAnyC C d P md ops Q f (listed.setIfInBounds i true) (a.put oi.dst v) w→wpAnyC C d P md ops Q (f+1) listed a w:=by
 have hnd:∀ (listed:Array Bool) j,i∈Region.ready md ops listed→j∈Region.ready md ops listed→j≠d:=fun listed j hr hj hjd=>by
  subst hjd
  obtain ⟨o',ho',e,he,hb,hon⟩:=Region.waitsFor_spec hdw
  obtain ⟨_,oj,hoj,hall⟩:=mem_ready.1 hj
  obtain rfl:o'=oj:=Option.some.inj (ho'.symm.trans hoj)
  have h4:=hall e he hb
  rw [hon,getD_both (mem_ready.1 hr).1] at h4
  cases h4
 intro f
 induction f with
 | zero =>
   intro listed a w hdl _ hr hy H
   have hid:i≠d:=hnd listed i hr hr
   refine .inr ⟨hdl,H.2 (by rw [getD_set_ne false hid];exact hdl),fun h=>(by rw [h] at hr;cases hr),fun j hj=>?_⟩
   by_cases hji:j=i
   ·subst hji;exact hy.op hi (H.2 (by rw [getD_set_ne false hid];exact hdl)) H
   ·have:=ready_mono hj hji
    rw [H.1.1] at this
    cases this
 | succ f ih =>
   intro listed a w hdl hfree hr hy H
   have hid:i≠d:=hnd listed i hr hr
   rcases H with H | H
   ·rw [getD_set_ne false hid,hdl] at H;cases H.1
   ·obtain ⟨hd1,hC,hn,H⟩:=H
    refine .inr ⟨hdl,hC,fun h=>(by rw [h] at hr;cases hr),fun j hj=>?_⟩
    by_cases hji:j=i
    ·subst hji;exact hy.op hi hC (.inr ⟨hd1,hC,hn,H⟩)
    ·have h1:=H j (ready_mono hj hji)
     obtain ⟨hjun,oj,hoj,hall⟩:=mem_ready.1 hj
     have hnot:∀ e∈oj.after,Region.binds md e=true→e.on≠i:=fun e he hb heq=>by
      have h1:=hall e he hb
      rw [heq,getD_both (mem_ready.1 hr).1] at h1
      cases h1
     have h2:=wpOp_putC hoj (hfree j oj hoj hji hjun hnot) (fun cs b=>hsel i oi cs b hi) (fun cs b=>hsel j oj cs b hoj) hQ hy h1
     refine wpOp_mono (fun a' w' h3=>ih (listed.setIfInBounds j true) a' w' (by rw [getD_set_ne false (hnd listed j hr hj)];exact hdl) (fun k ok hk hki hku hno=>?_) (ready_mono hr (Ne.symm hji)) h3.1 ?_) h2
     ·refine hfree k ok hk hki ?_ hno
      by_cases hjk:j=k
      ·subst hjk;exact hjun
      ·rw [getD_set_ne true hjk] at hku;exact hku
     ·rw [Array.setIfInBounds_comm _ _ hji]
      exact h3.2
theorem takeC {C:World→Prop} {d i:Nat} {oi:Oper} {v:Value} {f:Nat} {listed:Array Bool} {a:Act} {w:World} (hi:ops[i]?=some oi)
 (hs:Region.noSelect ops=true) (hf:Region.free md ops listed i=true) (hr:(Region.ready md ops listed).contains i=true) (hdw:Region.waitsFor md ops d i=true) (hdl:listed.getD d false=false)
 (hQ:∀ c a w,Q (.panic c) (a.put oi.dst v) w→Q (.panic c) a w) (hy:YieldsC C P ops oi v a)
 (h:wpAnyC C d P md ops Q f (listed.setIfInBounds i true) (a.put oi.dst v) w):wpAnyC C d P md ops Q (f+1) listed a w :=
 firstC hi (Region.noSelect_spec hs) hdw hQ f listed a w hdl (Region.free_spec hi hf) (by simpa using hr) hy h
theorem wpOp_of_list {i:Nat} {o:Oper} {K:Act→World→Prop} {a:Act} {w:World} (ho:ops[i]?=some o) (h:wpList P ops (Exit.then K Q) [o] a w):wpOp P ops Q i K a w:=by
 unfold wpOp
 simp only [ho]
 simp only [wpList] at h
 by_cases hw:Region.wanted o (yielded ops a.tmps)=true
 ·rw [if_pos hw] at h ⊢
  rcases h with h | ⟨h1,a0,w0,h2⟩
  ·refine .inl ?_
   unfold Oper.wp at *
   generalize (execOp a.eval o).run P w=r at *
   cases r with
   | ok n w' =>
     cases n<;>simp only [Oper.upon] at h ⊢
     case value u=>exact h
     case skip=>exact h
     case defer d=>exact h
     case enter f args =>
      refine Calls.mono h fun e w'' he=>?_
      cases e with
      | returned u=>exact he
      | panicked c=>exact he
      | outgrown=>exact he
     case row row args=>exact h
   | halt x w' =>
     cases x<;>simp only [Oper.upon] at h ⊢
     case panic u=>exact h
  ·exact .inr ⟨h1,a0,w0,h2⟩
 ·rw [if_neg hw] at h ⊢
  exact h
theorem consC {C:World→Prop} {d i:Nat} {o:Oper} {f:Nat} {listed:Array Bool} {a:Act} {w:World} (hr:Region.ready md ops listed=[i]) (hdl:listed.getD d false=false) (hC:C w) (ho:ops[i]?=some o)
 (h:∀ K:Act→World→Prop,(∀ a w,wpAnyC C d P md ops Q f (listed.setIfInBounds i true) a w→K a w)→wpList P ops (Exit.then K Q) [o] a w):wpAnyC C d P md ops Q (f+1) listed a w:=by
 refine .inr ⟨hdl,hC,fun h0=>(by rw [hr] at h0;cases h0),fun j hj=>?_⟩
 rw [hr] at hj
 obtain rfl:j=i:=by simpa using hj
 exact wpOp_of_list ho (h _ fun _ _ h=>h)
theorem lastC {C:World→Prop} {d:Nat} {f:Nat} {listed:Array Bool} {a:Act} {w:World} (hr:Region.ready md ops listed=[d]) (hdl:listed.getD d false=false) (hC:C w) (hlt:d < listed.size)
 (h:wpAny P md ops Q (f+1) listed a w):wpAnyC C d P md ops Q (f+1) listed a w:=by
 refine .inr ⟨hdl,hC,h.1,fun j hj=>?_⟩
 have hj':=hj
 rw [hr] at hj'
 obtain rfl:j=d:=by simpa using hj'
 refine wpOp_mono (fun a' w' h'=>?_) (h.2 j hj)
 have hd:(listed.setIfInBounds j true).getD j false=true:=by simp [hlt]
 cases f with
 | zero=>exact ⟨h',fun h0=>by rw [hd] at h0;cases h0⟩
 | succ f=>exact .inl ⟨hd,h'⟩
theorem rowsIn_of {l n:Nat} {row:String} {args:Array Value} {w:World} {R:Value→World→Prop} (h:Rows P row args w R):RowsIn (Fence.wide.inRound l) n P row args w R :=
 fun c cs _=>let ⟨v,w',r,s⟩:=h c cs;⟨v,w',r,stepsIn_wide.2 s⟩
def noDefer (ops:Array Oper):Bool:=ops.all fun o=>match o.op with | .defer _=>false | _=>true
theorem noDefer_spec (h:noDefer ops=true) (j:Nat) (o:Oper) (ho:ops[j]?=some o):∀ c,o.op≠.defer c:=by
 intro c heq
 have:=Array.all_eq_true_iff_forall_mem.1 h o (Array.mem_of_getElem? ho)
 simp [heq] at this
theorem opIn_of {l n:Nat} {o:Oper} {a:Act} {w:World} {K:Act→World→Prop} (hnd:∀ c,o.op≠.defer c) (h:o.wp P a w K Q):o.wpIn (Fence.wide.inRound l) n P a w K Q:=by
 unfold Oper.wpIn
 refine ⟨fun _ _=>trivial,?_⟩
 rw [show (Fence.wide.inRound l).round=some l from rfl,Oper.semAt_some l _ o hnd]
 unfold Oper.wp at h
 generalize (execOp a.eval o).run P w=r at *
 cases r with
 | ok n w' =>
   cases n<;>simp only [Oper.upon,Oper.uponIn] at h ⊢
   case value u=>exact h
   case skip=>exact h
   case defer d=>exact h
   case enter f args=>exact ⟨fun h0=>(by cases h0),CallsIn.inRound l (callsIn_wide.2 h)⟩
   case row row args=>exact ⟨fun h0=>(by cases h0),rowsIn_of h⟩
 | halt x w' =>
   cases x<;>simp only [Oper.upon,Oper.uponIn] at h ⊢
   case panic u=>exact h
theorem anyIn_of {l n:Nat} (hlo:¬ LetsOut Q) (hnd:noDefer ops=true):∀ (f:Nat) (listed:Array Bool) (a:Act) (w:World),wpAny P md ops Q f listed a w→wpAnyIn (Fence.wide.inRound l) n P md ops Q f listed a w
 | 0,_,_,_,h=>h
 | f+1,listed,a,w,h=>by
   refine ⟨h.1,fun i hi=>?_⟩
   have h1:=h.2 i hi
   unfold wpOp at h1
   unfold wpOpIn
   cases ho:ops[i]? with
   | none=>simp only [ho] at h1 ⊢;exact anyIn_of hlo hnd f _ _ _ h1
   | some o =>
     simp only [ho] at h1 ⊢
     by_cases hw:Region.wanted o (yielded ops a.tmps)=true
     ·rw [if_pos hw] at h1 ⊢
      rcases h1 with h1 | h1
      ·exact Oper.wpIn_mono (fun a' w' h'=>anyIn_of hlo hnd f _ a' w' h') (opIn_of (noDefer_spec hnd i o ho) h1)
      ·exact absurd h1.2 hlo
     ·rw [if_neg hw] at h1 ⊢
      exact ⟨fun _ _=>trivial,anyIn_of hlo hnd f _ _ _ h1⟩
theorem regionIn_any {l n id:Nat} {a:Act} {w:World} (hm:P.follows .mixedOrders=true) (hlo:¬ LetsOut Q) (hnd:noDefer ops=true)
 (h:wpAny P .any ops Q ops.size (Array.replicate ops.size false) a w.drew):(Code.region id ops true).wpIn (Fence.wide.inRound l) n P Q a w :=
 wpIn_region_any hm (anyIn_of hlo hnd _ _ _ _ h)
end
end Go.Proofs.YtdlcimfifkhllaaGreat
namespace Go.Proofs.YtdlcimfifkhllaaGreat
set_option maxRecDepth 100000
open Go.RowKit Go.Shelf
set_option linter.unusedVariables false
theorem cell_al {W:World} {a:Addr} {v:Value} (o:Obj) (h:W.cell? a=some v):(W.alloc o).cell? a=some v:=cell_kept h (World.grownBy_alloc W o none) (fun r e=>by cases e)
theorem owns_low {w:World} {B B' e k n:Nat} {v:Value} {xs:List Value} (h:w.ownsRow B e k v n xs) (hb:B'≤B):w.ownsRow B' e k v n xs:=by
 obtain ⟨h1,h2⟩:=h
 refine ⟨h1,?_⟩
 rcases h2 with h2 | ⟨g,cap,cur,hv,hbg,r⟩
 ·exact .inl h2
 ·exact .inr ⟨g,cap,cur,hv,by omega,r⟩
theorem keeps_of_below {W W':World} (h:Below W.heap.size W W'):KeepsOthers W W' :=
 ⟨h.size,fun k o hk _=>(h.block k (Array.getElem?_eq_some_iff.1 hk).1).trans hk⟩
theorem block_kept {W W':World} {row:Option Nat} {B t:Nat} {c:Array Value} (h:W.heap[B]?=some (.cells c t (0,0))) (hg:W.grownBy W' row) (hr:∀ r,row=some r→∃ o:Obj,W.heap[r]?=some o∧o.isCells=false):W'.heap[B]?=some (.cells c t (0,0)) :=
 (hg.block B (Array.getElem?_eq_some_iff.1 h).1 (fun e=>by obtain ⟨o,ho,hc⟩:=hr B e.symm;rw [h] at ho;cases ho;cases hc)).trans h
theorem block_not_row {W:World} {B t e:Nat} {c:Array Value} (h:W.heap[B]?=some (.cells c t (0,0))) (hte:t≠e) {base size k:Nat} {v:Value} {xs:List Value} (hr:W.ownsRow base e size v k xs):some B≠v.ownBlock:=by
 rcases hr.2 with ⟨rfl,_⟩ | ⟨g,cap,cur,rfl,_,hgb,_⟩
 ·simp [Value.ownBlock]
 ·intro e'
  obtain rfl:B=g:=by simpa [Value.ownBlock] using e'
  rw [h] at hgb
  simp at hgb
  exact hte hgb.2
theorem cell_of_block {W:World} {B t:Nat} {c:Array Value} {f:Nat × Nat} (h:W.heap[B]?=some (.cells c t f)) (j:Nat):W.cell? ⟨B,j,none⟩=c[j]?:=by simp [World.cell?,h]
end Go.Proofs.YtdlcimfifkhllaaGreat
namespace Go.Proofs.YtdlcimfifkhllaaGreat
set_option maxRecDepth 100000
open Go.RowKit
set_option linter.unusedVariables false
abbrev SVt:=Int × Int × Value
def stV (x:SVt):List Value:=[.int .i64 x.1,.int .i64 x.2.1,x.2.2]
theorem stV_len (x:SVt):(stV x).length=3:=rfl
theorem st_info:(Tryz.prog.info? 63).map (fun i=>(i.zero,i.size,i.bytes))=some (some (.agg #[.int .i64 0,.int .i64 0,.slice none 0 0]),3,40):=by kernel_rfl
theorem size_st:(Tryz.prog.info? 63).map (·.size)=some 3:=by kernel_rfl
structure StAt (W:World) (x:SVt) (s:Stp):Prop where
 from_:x.1=s.1
 to_:x.2.1=s.2.1
 eds:IsEds W x.2.2 s.2.2
def StOf (W:World) (L':List SVt) (L:List Stp):Prop:=L'.length=L.length∧∀ (i:Nat) x s,L'[i]?=some x→L[i]?=some s→StAt W x s
def IsSts (W:World) (v:Value) (L:List Stp):Prop:=∃ L',IsRec 3 stV W v L'∧StOf W L' L
def StRow (t:TypeId) (w:World) (L:List Stp) (e:Ending) (w':World):Prop:=∃ v L',e=.returned v∧Below w.heap.size w w'∧w'.ownsRow w.heap.size t 3 v L'.length (recV stV L')∧StOf w' L' L
theorem StOf.below {W W':World} {L':List SVt} {L:List Stp} (h:StOf W L' L) (hb:Below W.heap.size W W'):StOf W' L' L :=
 ⟨h.1,fun i x s hx hs=>⟨(h.2 i x s hx hs).from_,(h.2 i x s hx hs).to_,(h.2 i x s hx hs).eds.below hb⟩⟩
theorem IsSts.below {W W':World} {v:Value} {L:List Stp} (h:IsSts W v L) (hb:Below W.heap.size W W'):IsSts W' v L:=by
 obtain ⟨L',h1,h2⟩:=h
 exact ⟨L',h1.below hb,h2.below hb⟩
theorem IsSts.own {W:World} {B e:Nat} {v:Value} {L':List SVt} {L:List Stp} (h:W.ownsRow B e 3 v L'.length (recV stV L')) (hs:StOf W L' L) (hn:L'.length≤140737488351232):IsSts W v L :=
 ⟨L',IsRec.own stV_len (by omega) h hn,hs⟩
theorem IsSts.reads {W:World} {v:Value} {L:List Stp} (h:IsSts W v L):∃ a cap,v=.slice a L.length cap∧L.length≤cap∧cap≤9223372036854775807∧L.length≤140737488351232 ∧
 Hid (∀ k (hk:k < L.length),∃ b off,a=some ⟨b,off,none⟩∧∃ u,IsEds W u L[k].2.2∧∀ V,Below W.heap.size W V→V.cell? ⟨b,off+k*3,none⟩=some (.int .i64 L[k].1)∧V.cell? ⟨b,off+k*3+1,none⟩=some (.int .i64 L[k].2.1)∧V.cell? ⟨b,off+k*3+2,none⟩=some u):=by
 obtain ⟨L',h1,h2⟩:=h
 obtain ⟨a,cap,rfl,a1,a2,a3,HC⟩:=h1.some_at
 have hl:=h2.1
 rw [hl] at a1 a3
 refine ⟨a,cap,by rw [hl],a1,a2,a3,?_⟩
 intro k hk
 have hk':k < L'.length:=by omega
 obtain ⟨b,off,rfl,hlt,hc⟩:=HC.out k hk'
 have g:=h2.2 k _ _ (List.getElem?_eq_getElem hk') (List.getElem?_eq_getElem hk)
 refine ⟨b,off,rfl,L'[k].2.2,g.eds,fun V hV=>?_⟩
 rw [← g.from_,← g.to_]
 exact ⟨(hV.cell (p:=⟨b,off+k*3,none⟩) hlt).trans (hc 0 _ rfl),(hV.cell (p:=⟨b,off+k*3+1,none⟩) hlt).trans (hc 1 _ rfl),(hV.cell (p:=⟨b,off+k*3+2,none⟩) hlt).trans (hc 2 _ rfl)⟩
def EdB (W:World) (v:Value) (l:List Ed):Prop:=∃ b,v=.slice (some ⟨b,0,none⟩) l.length l.length∧W.heap[b]?=some (.cells (recV edV l).toArray 71 (0,0))
theorem EdB.eds {W:World} {v:Value} {l:List Ed} (h:EdB W v l) (hl:l.length≤1000):IsEds W v l:=by
 obtain ⟨b,rfl,hb⟩:=h
 refine ⟨_,_,_,rfl,rfl,Nat.le_refl _,by omega,by omega,.inr ⟨b,0,rfl,(Array.getElem?_eq_some_iff.1 hb).1,fun i hi j u hu=>?_⟩⟩
 have hj:j < 5:=by rw [← edV_len l[i]];exact (List.getElem?_eq_some_iff.1 hu).1
 rw [cell_of_block hb,Nat.zero_add,List.getElem?_toArray,recV_get edV_len l i hi j hj]
 exact hu
theorem EdB.kept {W W':World} {v r:Value} {l:List Ed} {B e k n:Nat} {xs:List Value} (h:EdB W v l) (hr:W.ownsRow B e k r n xs) (hte:71≠e) (hg:W.grownBy W' r.ownBlock):EdB W' v l:=by
 obtain ⟨b,rfl,hb⟩:=h
 exact ⟨b,rfl,(hg.block b (Array.getElem?_eq_some_iff.1 hb).1 (block_not_row hb hte hr)).trans hb⟩
theorem EdB.below {W W':World} {v:Value} {l:List Ed} (h:EdB W v l) (hb:Below W.heap.size W W'):EdB W' v l:=by
 obtain ⟨b,rfl,hh⟩:=h
 exact ⟨b,rfl,(hb.block b (Array.getElem?_eq_some_iff.1 hh).1).trans hh⟩
theorem EdB.new (W:World) (l:List Ed):EdB (W.alloc (.cells (recV edV l).toArray 71)) (.slice (some ⟨W.heap.size,0,none⟩) l.length l.length) l:=⟨W.heap.size,rfl,World.alloc_heap_new W _⟩
def StB (W:World) (L':List SVt) (L:List Stp):Prop:=L'.length=L.length∧∀ (i:Nat) x s,L'[i]?=some x→L[i]?=some s→x.1=s.1∧x.2.1=s.2.1∧EdB W x.2.2 s.2.2∧s.2.2.length≤2
theorem StB.nil (W:World):StB W [] []:=⟨rfl,fun i x s h=>by simp at h⟩
theorem StB.of {W:World} {L':List SVt} {L:List Stp} (h:StB W L' L):StOf W L' L :=
 ⟨h.1,fun i x s hx hs=>by obtain ⟨a,b,c,d⟩:=h.2 i x s hx hs;exact ⟨a,b,c.eds (by omega)⟩⟩
theorem StB.below {W W':World} {L':List SVt} {L:List Stp} (h:StB W L' L) (hb:Below W.heap.size W W'):StB W' L' L :=
 ⟨h.1,fun i x s hx hs=>by obtain ⟨a,b,c,d⟩:=h.2 i x s hx hs;exact ⟨a,b,c.below hb,d⟩⟩
theorem StB.push {wd w3:World} {L':List SVt} {L:List Stp} {B e n:Nat} {r:Value} {xs:List Value} (h:StB wd L' L) (hrow:wd.ownsRow B e 3 r n xs) (hte:71≠e) (es:List Ed) (h2:es.length≤2) (a b:Int) (T:Obj)
 (hg:((wd.alloc (.cells (recV edV es).toArray 71)).alloc T).grownBy w3 r.ownBlock):StB w3 (L'++[(a,b,.slice (some ⟨wd.heap.size,0,none⟩) es.length es.length)]) (L++[(a,b,es)]):=by
 have hb:Below wd.heap.size wd ((wd.alloc (.cells (recV edV es).toArray 71)).alloc T):=((Below.refl _ wd).alloc (Nat.le_refl _) _).alloc (by simp) _
 have hr2:=(hrow.alloc (.cells (recV edV es).toArray 71)).alloc T
 refine ⟨by simp [h.1],fun i x s hx hs=>?_⟩
 rcases Nat.lt_or_ge i L'.length with hi | hi
 ·rw [List.getElem?_append_left hi] at hx
  rw [List.getElem?_append_left (by rw [← h.1];exact hi)] at hs
  obtain ⟨p,q,c,d⟩:=h.2 i x s hx hs
  exact ⟨p,q,(c.below hb).kept hr2 hte hg,d⟩
 ·rw [List.getElem?_append_right hi] at hx
  rw [List.getElem?_append_right (by rw [← h.1];exact hi)] at hs
  rw [h.1] at hx
  rcases Nat.eq_zero_or_pos (i - L.length) with h0 | h0
  ·rw [h0] at hx hs
   simp only [List.getElem?_cons_zero,Option.some.injEq] at hx hs
   subst hx hs
   exact ⟨rfl,rfl,((EdB.new wd es).below ((Below.refl _ _).alloc (Nat.le_refl _) T)).kept hr2 hte hg,h2⟩
  ·rw [List.getElem?_eq_none (by simp;omega)] at hx
   cases hx
def sTo (level:Int) (l:List Ed) (k:Nat):List Stp:=(l.take k).flatMap (stepOf level l)
def sIn (l:List Ed) (e:Ed) (k:Nat):List Stp:=(l.take k).filterMap fun g=>if g.1=3∧g.2.1=e.2.2.1 then some (two2 e g) else none
theorem sTo_all (level:Int) (l:List Ed):sTo level l l.length=stepsL level l:=by unfold sTo stepsL;rw [List.take_length]
theorem sTo_next (level:Int) (l:List Ed) (k:Nat) (hk:k < l.length):sTo level l (k+1)=sTo level l k++stepOf level l l[k]:=by
 unfold sTo
 rw [List.take_succ_eq_append_getElem hk,List.flatMap_append]
 simp
theorem sIn_all (l:List Ed) (e:Ed):sIn l e l.length=l.filterMap fun g=>if g.1=3∧g.2.1=e.2.2.1 then some (two2 e g) else none:=by unfold sIn;rw [List.take_length]
theorem sIn_yes (l:List Ed) (e:Ed) (k:Nat) (hk:k < l.length) (h:l[k].1=3∧l[k].2.1=e.2.2.1):sIn l e (k+1)=sIn l e k++[two2 e l[k]]:=by
 unfold sIn
 rw [List.take_succ_eq_append_getElem hk,List.filterMap_append]
 congr 1
 simp [h]
theorem sIn_no (l:List Ed) (e:Ed) (k:Nat) (hk:k < l.length) (h:¬ (l[k].1=3∧l[k].2.1=e.2.2.1)):sIn l e (k+1)=sIn l e k:=by
 unfold sIn
 rw [List.take_succ_eq_append_getElem hk,List.filterMap_append]
 rw [show [l[k]].filterMap (fun g=>if g.1=3∧g.2.1=e.2.2.1 then some (two2 e g) else none)=[] by
  rw [List.filterMap_cons,if_neg h];rfl]
 simp
theorem stepOf_1 (l:List Ed) (e:Ed):stepOf 1 l e=[one1 e]:=by unfold stepOf;simp
theorem stepOf_2 (l:List Ed) (e:Ed) (h:e.1≠3):stepOf 2 l e=one1 e::l.filterMap fun g=>if g.1=3∧g.2.1=e.2.2.1 then some (two2 e g) else none:=by unfold stepOf;simp [h]
theorem stepOf_23 (l:List Ed) (e:Ed) (h:e.1=3):stepOf 2 l e=[]:=by unfold stepOf;simp [h]
theorem stepOf_o (level:Int) (l:List Ed) (e:Ed) (h1:level≠1) (h2:level≠2):stepOf level l e=[]:=by unfold stepOf;simp [h1,h2]
theorem recS_snoc (L:List SVt) (x:SVt):recV stV (L++[x])=recV stV L++[.int .i64 x.1,.int .i64 x.2.1,x.2.2]:=by rw [recV_append];rfl
theorem IsEds.at {w:World} {b off:Nat} {l:List Ed} {k:Nat} (hk:k < l.length) (h:∀ j u,(edV l[k])[j]?=some u→w.cell? ⟨b,off+k*5+j,none⟩=some u) :
 w.cell? ⟨b,off+k*5,none⟩=some (.int .i64 l[k].1)∧w.cell? ⟨b,off+k*5+1,none⟩=some (.int .i64 l[k].2.1)∧w.cell? ⟨b,off+k*5+2,none⟩=some (.int .i64 l[k].2.2.1)∧w.cell? ⟨b,off+k*5+3,none⟩=some (.int .i64 l[k].2.2.2.1)∧w.cell? ⟨b,off+k*5+4,none⟩=some (.int .i64 l[k].2.2.2.2) :=
 ⟨h 0 _ rfl,h 1 _ rfl,h 2 _ rfl,h 3 _ rfl,h 4 _ rfl⟩
theorem IsEds.reads {w:World} {v:Value} {l:List Ed} (hT:IsEds w v l):∃ a cap,v=.slice a l.length cap∧l.length≤cap∧cap≤9223372036854775807∧l.length≤140737488351232 ∧
 Hid (0 < l.length→∃ b off,a=some ⟨b,off,none⟩∧Hid (∀ j (hj:j < l.length),∀ V,Below w.heap.size w V→V.cell? ⟨b,off+j*5,none⟩=some (.int .i64 l[j].1)∧V.cell? ⟨b,off+j*5+1,none⟩=some (.int .i64 l[j].2.1)∧V.cell? ⟨b,off+j*5+2,none⟩=some (.int .i64 l[j].2.2.1)∧V.cell? ⟨b,off+j*5+3,none⟩=some (.int .i64 l[j].2.2.2.1)∧V.cell? ⟨b,off+j*5+4,none⟩=some (.int .i64 l[j].2.2.2.2))):=by
 obtain ⟨a,cap,rfl,h1,h2,h3,HC⟩:=hT.some_at
 refine ⟨a,cap,rfl,h1,h2,h3,?_⟩
 intro h0
 obtain ⟨b,off,rfl,hlt,_⟩:=HC.out 0 h0
 refine ⟨b,off,rfl,?_⟩
 intro j hj V hV
 obtain ⟨b',off',hbo,_,hc⟩:=HC.out j hj
 obtain ⟨rfl,rfl⟩:b=b'∧off=off':=by simpa using hbo
 obtain ⟨s0,s1,s2,s3,s4⟩:=IsEds.at hj hc
 exact ⟨(hV.cell (p:=⟨b,off+j*5,none⟩) hlt).trans s0,(hV.cell (p:=⟨b,off+j*5+1,none⟩) hlt).trans s1,(hV.cell (p:=⟨b,off+j*5+2,none⟩) hlt).trans s2,(hV.cell (p:=⟨b,off+j*5+3,none⟩) hlt).trans s3,(hV.cell (p:=⟨b,off+j*5+4,none⟩) hlt).trans s4⟩
def holdsK (h:List Ev) (k f t:Int) (x y:Ev) (a b:Nat):Bool :=
 if x.2.2.1≠y.2.2.1 then false else if x.2.1≠f then false else if y.2.1≠t then false else
 if k=1 then decide (x.1=3)&&decide (y.1=3)&&decide (a < b)
 else if k=2 then decide (x.1=3)&&decide (y.1=2)&&decide (x.2.2.2=y.2.2.2)
 else if k≠3 then false else if x.1≠2 then false else if y.1≠3 then false else if x.2.2.2=[] then true else
 match writerL h x.2.2.1 x.2.2.2 with
 | none=>false
 | some w=>if tx h w=t then false else match commL h (tx h w) with
   | none=>false
   | some c=>decide (c < b)
def holdsC (h:List Ev) (e:Ed):Bool :=
 match commL h e.2.1 with
 | none=>false
 | some a=>match commL h e.2.2.1 with
   | none=>false
   | some b=>if e.2.1=e.2.2.1 then false else if e.2.2.2.1 < 0 then false else if (h.length:Int)≤e.2.2.2.1 then false else if e.2.2.2.2 < 0 then false else if (h.length:Int)≤e.2.2.2.2 then false else
     holdsK h e.1 e.2.1 e.2.2.1 (ev h e.2.2.2.1.toNat) (ev h e.2.2.2.2.toNat) a b
theorem holdsK_iff (h:List Ev) (k f t:Int) (x y:Ev) (a b:Nat):holdsK h k f t x y a b=true↔x.2.2.1=y.2.2.1∧x.2.1=f∧y.2.1=t∧((k=1∧x.1=3∧y.1=3∧a < b)∨(k=2∧x.1=3∧y.1=2∧x.2.2.2=y.2.2.2)∨(k=3∧x.1=2∧y.1=3∧(x.2.2.2=[]∨∃ w c,writerL h x.2.2.1 x.2.2.2=some w∧tx h w≠t∧commL h (tx h w)=some c∧c < b))):=by
 unfold holdsK
 by_cases h1:x.2.2.1=y.2.2.1
 ·rw [if_neg (fun hh=>hh h1)]
  by_cases h2:x.2.1=f
  ·rw [if_neg (fun hh=>hh h2)]
   by_cases h3:y.2.1=t
   ·rw [if_neg (fun hh=>hh h3)]
    by_cases k1:k=1
    ·rw [if_pos k1]
     simp only [Bool.and_eq_true,decide_eq_true_eq]
     subst k1
     exact ⟨fun hh=>⟨h1,h2,h3,Or.inl ⟨rfl,hh.1.1,hh.1.2,hh.2⟩⟩,fun hh=>by
      rcases hh.2.2.2 with hh | hh | hh
      ·exact ⟨⟨hh.2.1,hh.2.2.1⟩,hh.2.2.2⟩
      ·exact absurd hh.1 (by decide)
      ·exact absurd hh.1 (by decide)⟩
    ·rw [if_neg k1]
     by_cases k2:k=2
     ·rw [if_pos k2]
      simp only [Bool.and_eq_true,decide_eq_true_eq]
      subst k2
      exact ⟨fun hh=>⟨h1,h2,h3,Or.inr (Or.inl ⟨rfl,hh.1.1,hh.1.2,hh.2⟩)⟩,fun hh=>by
       rcases hh.2.2.2 with hh | hh | hh
       ·exact absurd hh.1 (by decide)
       ·exact ⟨⟨hh.2.1,hh.2.2.1⟩,hh.2.2.2⟩
       ·exact absurd hh.1 (by decide)⟩
     ·rw [if_neg k2]
      by_cases k3:k=3
      ·rw [if_neg (fun hh=>hh k3)]
       by_cases x2:x.1=2
       ·rw [if_neg (fun hh=>hh x2)]
        by_cases y3:y.1=3
        ·rw [if_neg (fun hh=>hh y3)]
         by_cases v0:x.2.2.2=[]
         ·rw [if_pos v0]
          exact ⟨fun _=>⟨h1,h2,h3,Or.inr (Or.inr ⟨k3,x2,y3,Or.inl v0⟩)⟩,fun _=>rfl⟩
         ·rw [if_neg v0]
          constructor
          ·intro hh
           cases hw:writerL h x.2.2.1 x.2.2.2 with
           | none=>rw [hw] at hh;cases hh
           | some w =>
             rw [hw] at hh
             simp only at hh
             by_cases ht:tx h w=t
             ·rw [if_pos ht] at hh;cases hh
             ·rw [if_neg ht] at hh
              cases hc:commL h (tx h w) with
              | none=>rw [hc] at hh;cases hh
              | some c =>
                rw [hc] at hh
                simp only [decide_eq_true_eq] at hh
                exact ⟨h1,h2,h3,Or.inr (Or.inr ⟨k3,x2,y3,Or.inr ⟨w,c,rfl,ht,hc,hh⟩⟩)⟩
          ·rintro ⟨_,_,_,hh | hh | hh⟩
           ·exact absurd hh.1 k1
           ·exact absurd hh.1 k2
           ·obtain ⟨_,_,_,e | ⟨w,c,hw,ht,hc,hb⟩⟩:=hh
            ·exact absurd e v0
            ·rw [hw]
             simp only
             rw [if_neg ht,hc]
             exact decide_eq_true hb
        ·rw [if_pos y3]
         exact ⟨fun hh=>(by cases hh),fun hh=>by
          rcases hh.2.2.2 with hh | hh | hh
          ·exact absurd hh.1 k1
          ·exact absurd hh.1 k2
          ·exact absurd hh.2.2.1 y3⟩
       ·rw [if_pos x2]
        exact ⟨fun hh=>(by cases hh),fun hh=>by
         rcases hh.2.2.2 with hh | hh | hh
         ·exact absurd hh.1 k1
         ·exact absurd hh.1 k2
         ·exact absurd hh.2.1 x2⟩
      ·rw [if_pos k3]
       exact ⟨fun hh=>(by cases hh),fun hh=>by
        rcases hh.2.2.2 with hh | hh | hh
        ·exact absurd hh.1 k1
        ·exact absurd hh.1 k2
        ·exact absurd hh.1 k3⟩
   ·rw [if_pos h3];exact ⟨fun hh=>(by cases hh),fun hh=>absurd hh.2.2.1 h3⟩
  ·rw [if_pos h2];exact ⟨fun hh=>(by cases hh),fun hh=>absurd hh.2.1 h2⟩
 ·rw [if_pos h1];exact ⟨fun hh=>(by cases hh),fun hh=>absurd hh.1 h1⟩
theorem holdsC_iff (h:List Ev) (e:Ed):holdsC h e=true↔holdsL h e:=by
 obtain ⟨k,f,t,I,J⟩:=e
 unfold holdsC holdsL
 simp only
 cases ca:commL h f with
 | none=>exact ⟨fun hh=>(by cases hh),fun ⟨a,b,i,j,h1,_⟩=>by cases h1⟩
 | some a =>
   cases cb:commL h t with
   | none=>exact ⟨fun hh=>(by cases hh),fun ⟨a,b,i,j,_,h1,_⟩=>by cases h1⟩
   | some b =>
     simp only
     by_cases g1:f=t
     ·rw [if_pos g1];exact ⟨fun hh=>(by cases hh),fun ⟨_,_,_,_,_,_,h1,_⟩=>absurd g1 h1⟩
     ·rw [if_neg g1]
      by_cases g2:I < 0
      ·rw [if_pos g2];exact ⟨fun hh=>(by cases hh),fun ⟨_,_,i,_,_,_,_,h1,_⟩=>by omega⟩
      ·rw [if_neg g2]
       by_cases g3:(h.length:Int)≤I
       ·rw [if_pos g3];exact ⟨fun hh=>(by cases hh),fun ⟨_,_,i,_,_,_,_,h1,_,h2,_⟩=>by omega⟩
       ·rw [if_neg g3]
        by_cases g4:J < 0
        ·rw [if_pos g4];exact ⟨fun hh=>(by cases hh),fun ⟨_,_,_,j,_,_,_,_,h1,_⟩=>by omega⟩
        ·rw [if_neg g4]
         by_cases g5:(h.length:Int)≤J
         ·rw [if_pos g5];exact ⟨fun hh=>(by cases hh),fun ⟨_,_,_,j,_,_,_,_,h1,_,h2,_⟩=>by omega⟩
         ·rw [if_neg g5,holdsK_iff]
          constructor
          ·rintro ⟨h1,h2,h3,h4⟩
           exact ⟨a,b,I.toNat,J.toNat,rfl,rfl,g1,by omega,by omega,by omega,by omega,h1,h2,h3,h4⟩
          ·rintro ⟨a',b',i,j,e1,e2,_,e3,e4,_,_,h1,h2,h3,h4⟩
           cases e1
           cases e2
           obtain rfl:I.toNat=i:=by omega
           obtain rfl:J.toNat=j:=by omega
           exact ⟨h1,h2,h3,h4⟩
def ndOf (h:List Ev) (j:Nat):Option Int:=if commL h ((j:Int) - 1)=none then none else some ((j:Int) - 1)
def ndL (h:List Ev) (k:Nat):List Int:=(List.range k).filterMap (ndOf h)
def nodeL (h:List Ev):List Int:=ndL h 301
theorem nd_next (h:List Ev) (k:Nat):ndL h (k+1)=ndL h k++(ndOf h k).toList:=by
 unfold ndL
 rw [List.range_succ,List.filterMap_append]
 cases hl:ndOf h k with
 | none=>simp [hl]
 | some x=>simp [hl]
theorem nd_len (h:List Ev) (k:Nat):(ndL h k).length≤k:=by
 unfold ndL
 have:=List.length_filterMap_le (ndOf h) (List.range k)
 rwa [List.length_range] at this
theorem comm_has (h:List Ev) (t:Int) (hf:fstL h t h.length=none):commL h t=none:=by
 cases hc:commL h t with
 | none=>rfl
 | some e =>
   obtain ⟨he,_⟩:=(commL_some h t e).1 hc
   obtain ⟨e1,e2,_⟩:=(endL_some h t _ e).1 he
   exact absurd e2.1 ((fstL_none h t _).1 hf e e1)
theorem nd_mem (h:List Ev) (k:Nat) (t:Int):t∈ndL h k↔(-1≤t∧t < (k:Int) - 1)∧commL h t≠none:=by
 unfold ndL
 rw [List.mem_filterMap]
 constructor
 ·rintro ⟨j,hj,hh⟩
  have hjk:=List.mem_range.1 hj
  unfold ndOf at hh
  by_cases hc:commL h ((j:Int) - 1)=none
  ·rw [if_pos hc] at hh;cases hh
  ·rw [if_neg hc] at hh
   cases hh
   exact ⟨by omega,hc⟩
 ·rintro ⟨h1,h2⟩
  refine ⟨(t+1).toNat,List.mem_range.2 (by omega),?_⟩
  have e:(((t+1).toNat:Nat):Int) - 1=t:=by omega
  unfold ndOf
  rw [e,if_neg h2]
abbrev Lf:=Int × Nat × Nat × Bool
def lifV (x:Lf):List Value:=[.int .i64 x.1,.int .i64 (x.2.1:Int),.int .i64 (x.2.2.1:Int),.bool x.2.2.2]
theorem lifV_len (x:Lf):(lifV x).length=4:=rfl
abbrev IsLfs (w:World) (v:Value) (L:List Lf):Prop:=IsRec 4 lifV w v L
abbrev lifA (x:Lf):Value:=.agg #[.int .i64 x.1,.int .i64 (x.2.1:Int),.int .i64 (x.2.2.1:Int),.bool x.2.2.2]
def findP (h:List Ev) (t:Int):Lf × Bool:=match findL h t with
 | none=>((0,0,0,false),false)
 | some x=>(x,true)
theorem lif_info:(Tryz.prog.info? 91).map (fun i=>(i.zero,i.size,i.bytes))=some (some (.agg #[.int .i64 0,.int .i64 0,.int .i64 0,.bool false]),4,32):=by kernel_rfl
theorem size_lif:(Tryz.prog.info? 91).map (·.size)=some 4:=by kernel_rfl
def intV (n:Int):List Value:=[.int .i64 n]
theorem intV_len (n:Int):(intV n).length=1:=rfl
abbrev IsInts (w:World) (v:Value) (L:List Int):Prop:=IsRec 1 intV w v L
theorem int_info:(Tryz.prog.info? 3).map (fun i=>(i.zero,i.size,i.bytes))=some (some (.int .i64 0),1,8):=by kernel_rfl
def LfRow (t:TypeId) (w:World) (L:List Lf) (e:Ending) (w':World):Prop:=∃ v,e=.returned v∧Below w.heap.size w w'∧w'.ownsRow w.heap.size t 4 v L.length (recV lifV L)
def InRow (w:World) (L:List Int) (e:Ending) (w':World):Prop:=∃ v,e=.returned v∧Below w.heap.size w w'∧w'.ownsRow w.heap.size 3 1 v L.length (recV intV L)
theorem find_has (h:List Ev) (i:Nat) (hi:i < h.length):∃ x,findL h (ev h i).2.1=some x:=by
 unfold findL
 cases hf:fstL h (ev h i).2.1 h.length with
 | none=>exact absurd rfl ((fstL_none _ _ _).1 hf i hi)
 | some f =>
   simp only
   cases endL h (ev h i).2.1 h.length with
   | none=>exact ⟨_,rfl⟩
   | some e=>exact ⟨_,rfl⟩
theorem findP_of {h:List Ev} {t:Int} {x:Lf} (hx:findL h t=some x):findP h t=(x,true):=by unfold findP;rw [hx]
theorem last_upto (h:List Ev) (t:Int) (key:List UInt8) (i:Nat) (hi:i≤h.length):lastL h t key (i:Int)=lastN h t key i:=by
 unfold lastL
 rw [Int.toNat_natCast,Nat.min_eq_right hi]
theorem last_end (h:List Ev) (t:Int) (key:List UInt8) (before:Int) (k:Nat) (hk:k≤h.length) (hb:k=0∨(k:Int)≤before) (he:k=h.length∨before≤(k:Int)):lastL h t key before=lastN h t key k:=by
 unfold lastL
 have:min h.length before.toNat=k:=by rw [Nat.min_def];split<;>omega
 rw [this]
def okN (t:Int):Prop:=-9223372036854775808≤t∧t≤9223372036854775807
def goodEd (x:Ed):Prop:=okN x.1∧okN x.2.1∧okN x.2.2.1∧okN x.2.2.2.1∧okN x.2.2.2.2
abbrev fewH (h:List Ev):Prop:=(∀ x∈h,0≤x.2.1∧x.2.1≤99)∧h.length≤120
open Go.ChangeShapes Go.WideShapes Go.ChangeAt Go.RowKit
theorem okN_wf {n:Int} (h:(Lit.int .i64 n).wf=true):okN n:=i64_wf h
theorem ed_elem {H:Type} {enc:TypeId × Value→H} {W:World} (n:Nat) (cs':List Value) (d':DataW H) (p':List MemPlace) (hl:cs'.length=5) (h:DataW.trod enc Tryz.prog W 0 (fun _=>true) true n 71 cs'=some (d',p')):∃ x,cs'=edV x∧goodEd x:=by
 have hu:=Tryz.underlying71
 obtain ⟨xs,k,_,hx,hcl,hlen,hel⟩:=DataW.trod_struct hu h
 have hlen':xs.length=5:=hlen
 match xs,hlen',cs',hl with
 | [y0,y1,y2,y3,y4],_,[c0,c1,c2,c3,c4],_ =>
   have k3:Tryz.prog.cellsOf 3=1:=by kernel_rfl
   have g0:=hel 0 _ rfl
   have g1:=hel 1 _ rfl
   have g2:=hel 2 _ rfl
   have g3:=hel 3 _ rfl
   have g4:=hel 4 _ rfl
   simp [k3] at g0 g1 g2 g3 g4
   obtain ⟨n0,e0,rfl,w0⟩:=DataW.trod_int Tryz.underlying3 g0
   obtain ⟨n1,e1,rfl,w1⟩:=DataW.trod_int Tryz.underlying3 g1
   obtain ⟨n2,e2,rfl,w2⟩:=DataW.trod_int Tryz.underlying3 g2
   obtain ⟨n3,e3,rfl,w3⟩:=DataW.trod_int Tryz.underlying3 g3
   obtain ⟨n4,e4,rfl,w4⟩:=DataW.trod_int Tryz.underlying3 g4
   simp at e0 e1 e2 e3 e4
   subst e0 e1 e2 e3 e4
   exact ⟨(n0,n1,n2,n3,n4),rfl,okN_wf w0,okN_wf w1,okN_wf w2,okN_wf w3,okN_wf w4⟩
theorem ed_arg {H:Type} {enc:TypeId × Value→H} {W:World} {v:Value} {d:DataW H} {p:List MemPlace} (hv:∃ a n c,v=.slice a n c)
 (h:DataW.Trod enc Tryz.prog W 0 (fun _=>true) true 26 v d p) (hw:(DataW.weights Tryz.prog 26 d).all (·≤ reachBytes)=true):∃ L:List Ed,IsEds W v L∧(∀ x∈L,goodEd x)∧L.length*40≤reachBytes:=by
 obtain ⟨a,n,c,rfl⟩:=hv
 obtain ⟨fuel,hf⟩:=h
 exact rec_cells goodEd 40 Tryz.underlying26 (by kernel_rfl) (by omega) (by kernel_rfl) (by omega) (fun n cs' d' p' hl h hw'=>ed_elem n cs' d' p' hl h) (by simpa [Value.cells] using hf) hw
end Go.Proofs.YtdlcimfifkhllaaGreat
namespace Go.Proofs.YtdlcimfifkhllaaGreat
set_option maxRecDepth 100000
set_option linter.unusedVariables false
def noWalk {α:Type} (l:List (Sp α)):Prop:=∀ n a,1≤n→¬ Walk l n a a
def goodL (h:List Ev) (level:Int):Prop:=clean h∧noWalk (stepsL level (edgesL h))
theorem order_iff {α:Type} (l:List (Sp α)) (nodes:List Int) (hall:∀ s∈l,s.1∈nodes∧s.2.1∈nodes):(∃ o,orderL nodes l=some o)↔noWalk l:=by
 constructor
 ·rintro ⟨o,ho⟩ n a hn hw
  have:=order_no_walk l nodes o ho hall n a a hn hw
  omega
 ·intro hno
  cases ho:orderL nodes l with
  | some o=>exact ⟨o,rfl⟩
  | none =>
    exfalso
    obtain ⟨core,h1,h2⟩:=orderF_none l _ _ (Nat.le_refl _) ho
    obtain ⟨r,hr⟩:=ring_of_core l core h1 h2
    obtain ⟨c1,c2,_⟩:=ring_some l r hr
    obtain ⟨a,h3,h4⟩:=closed_walk c1 c2
    exact hno _ a h3 h4
theorem ring_iff {α:Type} (l:List (Sp α)):ringL l=none↔noWalk l:=by
 constructor
 ·intro hr n a hn hw
  obtain ⟨r,hr',_⟩:=ring_of_walk l n a hn hw
  rw [hr] at hr';cases hr'
 ·intro hno
  cases hr:ringL l with
  | none=>rfl
  | some r =>
    exfalso
    obtain ⟨c1,c2,_⟩:=ring_some l r hr
    obtain ⟨a,h3,h4⟩:=closed_walk c1 c2
    exact hno _ a h3 h4
def flatL (r:List Stp):List Ed:=r.flatMap fun s=>s.2.2
def chainG (level:Int):List Ed→Int→Int→Prop
 | [],a,b=>a=b
 | [e],a,b=>e.2.1=a∧e.2.2.1=b
 | e::e'::r,a,b=>e.2.1=a∧relE level e e'∧chainG level (e'::r) e.2.2.1 b
theorem chainG_R (level:Int):∀ (l:List Ed) (a b:Int) (f:Ed),chainG level l a b→f.2.1=b→¬ (level=2∧f.1=3)→chainR level l f
 | [],_,_,_,_,_,_=>trivial
 | [e],a,b,f,h,hf,h3=>⟨h.2.trans hf.symm,fun hx=>h3 ⟨hx.1,hx.2.2⟩⟩
 | e::e'::r,a,b,f,h,hf,h3=>⟨h.2.1,chainG_R level (e'::r) _ b f h.2.2 hf h3⟩
theorem flat_chain (level:Int) (l:List Ed):∀ (r:List Stp) (a b:Int),(∀ s∈r,s∈stepsL level l)→chainB r a b→chainG level (flatL r) a b∧(∀ e∈flatL r,e∈l)∧(r≠[]→∃ e t,flatL r=e::t∧e.2.1=a∧¬ (level=2∧e.1=3))
 | [],a,b,_,h=>⟨h,fun e he=>(by cases he),fun hn=>absurd rfl hn⟩
 | s::r,a,b,hs,h=>by
   obtain ⟨i1,i2,i3⟩:=flat_chain level l r s.2.1 b (fun x hx=>hs x (List.mem_cons_of_mem _ hx)) h.2
   have hfl:flatL (s::r)=s.2.2++flatL r:=by unfold flatL;rw [List.flatMap_cons]
   have hsa:s.1=a:=h.1
   have next:∀ e:Ed,e.2.2.1=s.2.1→chainG level (e::flatL r) e.2.1 b:=fun e he=>by
    cases hr:flatL r with
    | nil =>
      rw [hr] at i1
      exact ⟨rfl,he.trans i1⟩
    | cons f t =>
      have hrn:r≠[]:=fun hx=>by rw [hx] at hr;cases hr
      obtain ⟨e0,t0,h1,h2,h3⟩:=i3 hrn
      rw [hr] at h1 i1
      cases h1
      exact ⟨rfl,⟨he.trans h2.symm,fun hx=>h3 ⟨hx.1,hx.2.2⟩⟩,by rw [he];exact i1⟩
   rcases steps_cases level l s (hs s (List.mem_cons_self ..)) with ⟨e,he,hlev,rfl⟩ | ⟨rfl,e,he,g,hg,e3,g3,hm,rfl⟩
   ·rw [hfl]
    have hn:=next e rfl
    have ha:e.2.1=a:=hsa
    refine ⟨by rw [← ha];exact hn,fun x hx=>?_,fun _=>⟨e,flatL r,rfl,ha,fun hx=>?_⟩⟩
    ·rcases List.mem_append.1 hx with hx | hx
     ·rw [List.mem_singleton.1 hx];exact he
     ·exact i2 x hx
    ·rcases hlev with hl | hl
     ·rw [hl] at hx;exact absurd hx.1 (by decide)
     ·exact hl.2 hx.2
   ·rw [hfl]
    have hn:=next g rfl
    have ha:e.2.1=a:=hsa
    refine ⟨?_,fun x hx=>?_,fun _=>⟨e,g::flatL r,rfl,ha,fun hx=>e3 hx.2⟩⟩
    ·show chainG 2 (e::g::flatL r) a b
     refine ⟨ha,⟨hm.symm,fun hx=>e3 hx.2.1⟩,?_⟩
     rw [← hm];exact hn
    ·rcases List.mem_append.1 hx with hx | hx
     ·rcases List.mem_cons.1 hx with rfl | hx
      ·exact he
      ·rw [List.mem_singleton.1 hx];exact hg
     ·exact i2 x hx
theorem flat_ring (level:Int) (l:List Ed) (r:List Stp) (h:ringL (stepsL level l)=some r):cyc level (flatL r)∧∀ e∈flatL r,e∈l:=by
 obtain ⟨⟨s,r',hr,hc⟩,h2,_⟩:=ring_some _ r h
 obtain ⟨i1,i2,i3⟩:=flat_chain level l r s.1 s.1 h2 hc
 refine ⟨?_,i2⟩
 obtain ⟨e,t,h1,h3,h4⟩:=i3 (by rw [hr];simp)
 rw [h1] at i1 ⊢
 exact chainG_R level (e::t) s.1 s.1 e i1 h3 h4
def stepAB (s:List Stp) (a b:Nat):Prop:=∃ x∈s,x.1=(a:Int)∧x.2.1=(b:Int)
def pathK (s:List Stp):Nat→Nat→Nat→Prop
 | 0,a,b=>stepAB s a b
 | k+1,a,b=>pathK s k a b∨(pathK s k a k∧pathK s k k b)
theorem pathK_trans (s:List Stp):∀ (k a c b:Nat),c < k→pathK s k a c→pathK s k c b→pathK s k a b
 | 0,_,_,_,hc,_,_=>absurd hc (by omega)
 | k+1,a,c,b,hc,h1,h2=>by
   rcases Nat.lt_or_ge c k with hck | hck
   ·rcases h1 with h1 | ⟨h1,h1'⟩
    ·rcases h2 with h2 | ⟨h2,h2'⟩
     ·exact .inl (pathK_trans s k a c b hck h1 h2)
     ·exact .inr ⟨pathK_trans s k a c k hck h1 h2,h2'⟩
    ·rcases h2 with h2 | ⟨h2,h2'⟩
     ·exact .inr ⟨h1,pathK_trans s k k c b hck h1' h2⟩
     ·exact .inr ⟨h1,h2'⟩
   ·obtain rfl:c=k:=by omega
    have g1:pathK s c a c:=h1.elim id And.left
    have g2:pathK s c c b:=h2.elim id And.right
    exact .inr ⟨g1,g2⟩
theorem pathK_step (s:List Stp) {a b:Nat} (h:stepAB s a b):∀ k,pathK s k a b
 | 0=>h
 | k+1=>.inl (pathK_step s h k)
def low64 (s:List Stp):Prop:=∀ x∈s,(0≤x.1∧x.1 < 64)∧0≤x.2.1∧x.2.1 < 64
theorem walk_pathK (s:List Stp) (hl:low64 s):∀ (n:Nat) (a b:Nat),Walk s (n+1) (a:Int) (b:Int)→pathK s 64 a b
 | 0,a,b,h=>by
   obtain ⟨x,hx,hw,e⟩:=h
   exact pathK_step s ⟨x,hx,e.symm,hw⟩ 64
 | n+1,a,b,h=>by
   obtain ⟨x,hx,hw,e⟩:=h
   obtain ⟨_,h1,h2⟩:=hl x hx
   obtain ⟨c,hc⟩:∃ c:Nat,x.2.1=(c:Int):=⟨x.2.1.toNat,by omega⟩
   rw [hc] at hw
   exact pathK_trans s 64 a c b (by omega) (pathK_step s ⟨x,hx,e.symm,hc⟩ 64) (walk_pathK s hl n c b hw)
def rd (A:List Bool) (a b:Nat):Bool:=A.getD (a*64+b) false
theorem rd_set (A:List Bool) (hA:A.length=4096) (a b x y:Nat) (v:Bool) (ha:a < 64) (hb:b < 64) (hx:x < 64) (hy:y < 64):rd (A.set (a*64+b) v) x y=if x=a∧y=b then v else rd A x y:=by
 unfold rd
 rw [List.getD_eq_getElem?_getD,List.getElem?_set,List.getD_eq_getElem?_getD]
 by_cases e:x=a∧y=b
 ·obtain ⟨rfl,rfl⟩:=e
  rw [if_pos rfl,if_pos (by omega),if_pos ⟨rfl,rfl⟩]
  rfl
 ·rw [if_neg e,if_neg (by omega)]
def soundW (s:List Stp) (A:List Bool):Prop:=∀ a b,a < 64→b < 64→rd A a b=true→∃ n,Walk s (n+1) (a:Int) (b:Int)
structure InvW (s:List Stp) (A:List Bool) (k a b:Nat):Prop where
 len:A.length=4096
 sound:soundW s A
 k1:∀ x y,x < 64→y < 64→pathK s k x y→rd A x y=true
 k2:∀ x y,x < a→x < 64→y < 64→pathK s (k+1) x y→rd A x y=true
 k3:∀ y,y < b→y < 64→pathK s (k+1) a y→rd A a y=true
theorem InvW.step {s:List Stp} {A:List Bool} {k a b:Nat} (h:InvW s A k a b) (hk:k < 64) (ha:a < 64) (hb:b < 64):InvW s (A.set (a*64+b) (rd A a b || rd A a k&&rd A k b)) k a (b+1):=by
 have mono:∀ x y,x < 64→y < 64→rd A x y=true→rd (A.set (a*64+b) (rd A a b || rd A a k&&rd A k b)) x y=true:=fun x y hx hy hr=>by
  rw [rd_set A h.len a b x y _ ha hb hx hy]
  by_cases e:x=a∧y=b
  ·rw [if_pos e]
   obtain ⟨rfl,rfl⟩:=e
   rw [hr]
   rfl
  ·rw [if_neg e];exact hr
 refine ⟨by rw [List.length_set];exact h.len,fun x y hx hy hr=>?_,fun x y hx hy hp=>mono x y hx hy (h.k1 x y hx hy hp),fun x y hxa hx hy hp=>mono x y hx hy (h.k2 x y hxa hx hy hp),fun y hyb hy hp=>?_⟩
 ·rw [rd_set A h.len a b x y _ ha hb hx hy] at hr
  by_cases e:x=a∧y=b
  ·rw [if_pos e] at hr
   obtain ⟨rfl,rfl⟩:=e
   rw [Bool.or_eq_true,Bool.and_eq_true] at hr
   rcases hr with hr | ⟨r1,r2⟩
   ·exact h.sound x y hx hy hr
   ·obtain ⟨n,hn⟩:=h.sound x k hx hk r1
    obtain ⟨m,hm⟩:=h.sound k y hk hy r2
    exact ⟨n+1+m,by have:=hn.append hm;rw [show n+1+(m+1)=n+1+m+1 by omega] at this;exact this⟩
  ·rw [if_neg e] at hr
   exact h.sound x y hx hy hr
 ·rcases Nat.lt_succ_iff_lt_or_eq.1 hyb with hlt | rfl
  ·exact mono a y ha hy (h.k3 y hlt hy hp)
  ·rw [rd_set A h.len a y a y _ ha hb ha hy,if_pos ⟨rfl,rfl⟩,Bool.or_eq_true,Bool.and_eq_true]
   rcases hp with hp | ⟨p1,p2⟩
   ·exact .inl (h.k1 a y ha hy hp)
   ·exact .inr ⟨h.k1 a k ha hk p1,h.k1 k y hk hy p2⟩
theorem InvW.row {s:List Stp} {A:List Bool} {k a:Nat} (h:InvW s A k a 64):InvW s A k (a+1) 0 :=
 ⟨h.len,h.sound,h.k1,fun x y hxa hx hy hp=>by
  rcases Nat.lt_succ_iff_lt_or_eq.1 hxa with hlt | rfl
  ·exact h.k2 x y hlt hx hy hp
  ·exact h.k3 y hy hy hp,fun y hy=>absurd hy (by omega)⟩
theorem InvW.round {s:List Stp} {A:List Bool} {k:Nat} (h:InvW s A k 64 0):InvW s A (k+1) 0 0 :=
 ⟨h.len,h.sound,fun x y hx hy hp=>h.k2 x y hx hx hy hp,fun x y hx=>absurd hx (by omega),fun y hy=>absurd hy (by omega)⟩
structure LayW (s:List Stp) (A:List Bool) (i:Nat):Prop where
 len:A.length=4096
 sound:soundW s A
 has:∀ x∈s.take i,∀ a b:Nat,x.1=(a:Int)→x.2.1=(b:Int)→rd A a b=true
theorem LayW.start (s:List Stp):LayW s (List.replicate 4096 false) 0 :=
 ⟨by simp,fun a b ha hb hr=>by
  unfold rd at hr
  rw [List.getD_eq_getElem?_getD,List.getElem?_replicate] at hr
  split at hr<;>simp at hr,fun x hx=>by simp at hx⟩
theorem LayW.next {s:List Stp} {A:List Bool} {i:Nat} (h:LayW s A i) (hl:low64 s) (hi:i < s.length) (a b:Nat) (ea:s[i].1=(a:Int)) (eb:s[i].2.1=(b:Int)):LayW s (A.set (a*64+b) true) (i+1):=by
 obtain ⟨l1,l2⟩:=hl s[i] (List.getElem_mem hi)
 have ha:a < 64:=by omega
 have hb:b < 64:=by omega
 refine ⟨by rw [List.length_set];exact h.len,fun x y hx hy hr=>?_,fun x hx p q ep eq=>?_⟩
 ·rw [rd_set A h.len a b x y _ ha hb hx hy] at hr
  by_cases e:x=a∧y=b
  ·obtain ⟨rfl,rfl⟩:=e
   exact ⟨0,s[i],List.getElem_mem hi,eb,ea.symm⟩
  ·rw [if_neg e] at hr
   exact h.sound x y hx hy hr
 ·have hxs:x∈s:=List.mem_of_mem_take hx
  obtain ⟨m1,m2⟩:=hl x hxs
  rw [rd_set A h.len a b p q _ ha hb (by omega) (by omega)]
  by_cases e:p=a∧q=b
  ·rw [if_pos e]
  ·rw [if_neg e]
   rw [List.take_succ_eq_append_getElem hi] at hx
   rcases List.mem_append.1 hx with hx | hx
   ·exact h.has x hx p q ep eq
   ·simp at hx
    subst hx
    exact absurd ⟨by omega,by omega⟩ e
theorem LayW.done {s:List Stp} {A:List Bool} (h:LayW s A s.length):InvW s A 0 0 0 :=
 ⟨h.len,h.sound,fun x y hx hy ⟨z,hz,e1,e2⟩=>h.has z (by rw [List.take_length];exact hz) x y e1 e2,fun x y hx=>absurd hx (by omega),fun y hy=>absurd hy (by omega)⟩
theorem InvW.good {s:List Stp} {A:List Bool} (h:InvW s A 64 0 0) (hl:low64 s):(∀ a,a < 64→rd A a a=false)↔noWalk s:=by
 constructor
 ·intro hd n x hn hw
  obtain ⟨m,rfl⟩:∃ m,n=m+1:=⟨n - 1,by omega⟩
  obtain ⟨z,hz,_,e⟩:=hw
  obtain ⟨l1,_⟩:=hl z hz
  obtain ⟨a,ea⟩:∃ a:Nat,x=(a:Int):=⟨x.toNat,by omega⟩
  subst ea
  have hp:=walk_pathK s hl m a a ⟨z,hz,by assumption,e⟩
  have hr:=h.k1 a a (by omega) (by omega) hp
  rw [hd a (by omega)] at hr
  cases hr
 ·intro hn a ha
  cases hr:rd A a a with
  | false=>rfl
  | true =>
    obtain ⟨n,hw⟩:=h.sound a a ha ha hr
    exact absurd hw (hn (n+1) a (by omega))
def cmO (y:Lf):Option Int:=if y.2.2.2=true then some y.1 else none
def cmF (L:List Lf):List Int:=L.filterMap cmO
theorem cmF_yes (L:List Lf) (k:Nat) (hk:k < L.length) (h:L[k].2.2.2=true):cmF (L.take (k+1))=cmF (L.take k)++[L[k].1]:=by
 unfold cmF
 rw [List.take_succ_eq_append_getElem hk,List.filterMap_append]
 congr 1
 simp [cmO,h]
theorem cmF_no (L:List Lf) (k:Nat) (hk:k < L.length) (h:L[k].2.2.2=false):cmF (L.take (k+1))=cmF (L.take k):=by
 unfold cmF
 rw [List.take_succ_eq_append_getElem hk,List.filterMap_append]
 rw [show [L[k]].filterMap cmO=[] by rw [List.filterMap_cons];simp [cmO,h]]
 simp
theorem cm_mem (h:List Ev) (t:Int):t∈cmF (livesL h)↔commL h t≠none:=by
 unfold cmF livesL
 rw [List.mem_filterMap]
 constructor
 ·rintro ⟨⟨t',f,e,b⟩,hy,hc⟩
  obtain ⟨i,hi,hh⟩:=List.mem_filterMap.1 hy
  by_cases h0:fstL h (ev h i).2.1 i=none
  ·rw [if_pos h0] at hh
   unfold cmO at hc
   simp only at hc
   cases b with
   | false=>simp at hc
   | true =>
     simp only [if_true,Option.some.injEq] at hc
     obtain ⟨e1,e2⟩:=find_comm h _ 0 f e t' hh
     rw [← hc,e1,e2]
     simp
  ·rw [if_neg h0] at hh;cases hh
 ·intro hc
  cases hq:commL h t with
  | none=>exact absurd hq hc
  | some e =>
    obtain ⟨f,hf⟩:=comm_find h t e hq
    cases hF:fstL h t h.length with
    | none=>exact absurd (comm_has h t hF) hc
    | some i =>
      obtain ⟨i1,i2,i3⟩:=(fstL_some h t _ i).1 hF
      refine ⟨(t,f,e,true),List.mem_filterMap.2 ⟨i,List.mem_range.2 i1,?_⟩,rfl⟩
      rw [i2,if_pos ((fstL_none h t i).2 i3),hf]
theorem cm_nodup (h:List Ev):(cmF (livesL h)).Nodup:=by
 unfold cmF livesL
 rw [List.filterMap_filterMap]
 refine List.Pairwise.filterMap (R:=fun a b:Nat=>a < b) _ ?_ List.pairwise_lt_range
 intro a b hab x hx y hy exy
 have key:∀ i z,(Option.bind (if fstL h (ev h i).2.1 i=none then findL h (ev h i).2.1 else none) cmO)=some z→fstL h (ev h i).2.1 i=none∧(ev h i).2.1=z:=by
  intro i z hz
  by_cases h0:fstL h (ev h i).2.1 i=none
  ·rw [if_pos h0] at hz
   refine ⟨h0,?_⟩
   cases hf:findL h (ev h i).2.1 with
   | none=>rw [hf] at hz;cases hz
   | some q =>
     obtain ⟨t',f,e,b⟩:=q
     rw [hf] at hz
     simp only [Option.bind_some,cmO] at hz
     cases b with
     | false=>simp at hz
     | true =>
       simp only [if_true,Option.some.injEq] at hz
       rw [← hz,(find_comm h _ 0 f e t' hf).1]
  ·rw [if_neg h0] at hz;cases hz
 obtain ⟨a1,a2⟩:=key a x hx
 obtain ⟨b1,b2⟩:=key b y hy
 exact (fstL_none h _ b).1 b1 a hab (by rw [a2,b2,exy])
theorem nd_sorted (h:List Ev) (k:Nat):(ndL h k).Pairwise (fun a b=>a < b):=by
 unfold ndL
 refine List.Pairwise.filterMap (R:=fun a b:Nat=>a < b) _ ?_ List.pairwise_lt_range
 intro a b hab x hx y hy
 unfold ndOf at hx hy
 by_cases h1:commL h ((a:Int) - 1)=none
 ·rw [if_pos h1] at hx;cases hx
 ·by_cases h2:commL h ((b:Int) - 1)=none
  ·rw [if_pos h2] at hy;cases hy
  ·rw [if_neg h1] at hx
   rw [if_neg h2] at hy
   cases hx
   cases hy
   omega
theorem node_sorted (h:List Ev) (hf:∀ x∈h,0≤x.2.1∧x.2.1≤99):((cmF (livesL h)).mergeSort fun x y=>decide (x≤y))=nodeL h:=by
 have nd:(nodeL h).Nodup:=List.Pairwise.imp (fun {a b} hlt e=>by omega) (nd_sorted h 301)
 have pm:(cmF (livesL h)).Perm (nodeL h):=by
  refine (List.perm_ext_iff_of_nodup (cm_nodup h) nd).2 fun t=>?_
  rw [cm_mem]
  unfold nodeL
  rw [nd_mem]
  constructor
  ·intro hc
   refine ⟨?_,hc⟩
   cases hF:fstL h t h.length with
   | none=>exact absurd (comm_has h t hF) hc
   | some i =>
     obtain ⟨i1,i2,i3⟩:=(fstL_some h t _ i).1 hF
     have:=hf h[i] (List.getElem_mem i1)
     rw [← ev_get h i i1,i2] at this
     omega
  ·exact fun hh=>hh.2
 refine List.Perm.eq_of_pairwise (le:=fun x y:Int=>x≤y) (fun a b _ _ h1 h2=>Int.le_antisymm h1 h2) ?_ ?_ ((List.mergeSort_perm _ _).trans pm)
 ·refine (List.pairwise_mergeSort (le:=fun x y:Int=>decide (x≤y)) (fun a b c h1 h2=>?_) (fun a b=>?_) (cmF (livesL h))).imp (fun {a b} hh=>by simpa using hh)
  ·rw [decide_eq_true_eq] at h1 h2 ⊢
   omega
  ·rw [Bool.or_eq_true,decide_eq_true_eq,decide_eq_true_eq]
   omega
 ·exact (nd_sorted h 301).imp (fun {a b} hh=>by omega)
abbrev Vd:=Int × Bool × List Int × (Int × Int × Int) × List Ed
def zV:Vd:=(0,false,[],(0,0,0),[])
def judgeL (h:List Ev) (level:Int):Vd × Int :=
 if level≠1∧level≠2 then (zV,1)
 else if (formedL h).2≠0 then (zV,((formedL h).2:Int))
 else match badsL h with
  | b::_=>((level,false,[],b,[]),0)
  | []=>match orderL (nodeL h) (stepsL level (edgesL h)) with
    | some o=>((level,true,o,(0,0,0),[]),0)
    | none=>((level,false,[],(0,0,0),flatL ((ringL (stepsL level (edgesL h))).getD [])),0)
theorem judge_arg (h:List Ev) (level:Int) (h1:level≠1) (h2:level≠2):judgeL h level=(zV,1):=by unfold judgeL;rw [if_pos ⟨h1,h2⟩]
theorem judge_form (h:List Ev) (level:Int) (hl:level=1∨level=2) (hf:(formedL h).2≠0):judgeL h level=(zV,((formedL h).2:Int)):=by unfold judgeL;rw [if_neg (by omega),if_pos hf]
theorem judge_bad (h:List Ev) (level:Int) (hl:level=1∨level=2) (hf:(formedL h).2=0) (b:Int × Int × Int) (r:List (Int × Int × Int)) (hb:badsL h=b::r):judgeL h level=((level,false,[],b,[]),0):=by
 unfold judgeL
 rw [if_neg (by omega),if_neg (fun e=>e hf),hb]
theorem judge_order (h:List Ev) (level:Int) (hl:level=1∨level=2) (hf:(formedL h).2=0) (hb:badsL h=[]) (o:List Int) (ho:orderL (nodeL h) (stepsL level (edgesL h))=some o):judgeL h level=((level,true,o,(0,0,0),[]),0):=by
 unfold judgeL
 rw [if_neg (by omega),if_neg (fun e=>e hf),hb]
 simp only
 rw [ho]
theorem judge_ring (h:List Ev) (level:Int) (hl:level=1∨level=2) (hf:(formedL h).2=0) (hb:badsL h=[]) (ho:orderL (nodeL h) (stepsL level (edgesL h))=none):judgeL h level=((level,false,[],(0,0,0),flatL ((ringL (stepsL level (edgesL h))).getD [])),0):=by
 unfold judgeL
 rw [if_neg (by omega),if_neg (fun e=>e hf),hb]
 simp only
 rw [ho]
theorem wf_low {h:List Ev} (hw:WF h) (i:Nat) (hi:i < h.length):0≤(ev h i).2.1∧(ev h i).2.1≤63:=by
 have:=wf_may hw hi
 unfold mayE at this
 omega
theorem step_ends (h:List Ev) (level:Int) (s:Stp) (hs:s∈stepsL level (edgesL h)):∃ e∈edgesL h,∃ g∈edgesL h,s.1=e.2.1∧s.2.1=g.2.2.1:=by
 rcases steps_cases level (edgesL h) s hs with ⟨e,he,_,rfl⟩ | ⟨_,e,he,g,hg,hh⟩
 ·exact ⟨e,he,e,he,rfl,rfl⟩
 ·obtain ⟨_,_,_,rfl⟩:=hh
  exact ⟨e,he,g,hg,rfl,rfl⟩
theorem steps_low {h:List Ev} (hw:WF h) (level:Int):low64 (stepsL level (edgesL h)):=by
 intro s hs
 obtain ⟨e,he,g,hg,e1,e2⟩:=step_ends h level s hs
 obtain ⟨_,_,i,j,_,_,_,_,_,hi,hj,_,t1,t2⟩:=edges_apart h e he
 obtain ⟨_,_,i',j',_,_,_,_,_,hi',hj',_,u1,u2⟩:=edges_apart h g hg
 have g1:=wf_low hw i hi
 have g2:=wf_low hw j' hj'
 unfold tx at t1 u2
 rw [e1,e2,← t1,← u2]
 omega
theorem steps_nodes {h:List Ev} (hw:WF h) (level:Int) (s:Stp) (hs:s∈stepsL level (edgesL h)):s.1∈nodeL h∧s.2.1∈nodeL h:=by
 obtain ⟨l1,l2⟩:=steps_low hw level s hs
 obtain ⟨e,he,g,hg,e1,e2⟩:=step_ends h level s hs
 obtain ⟨a,_,_,_,ca,_⟩:=edges_apart h e he
 obtain ⟨_,b,_,_,_,cb,_⟩:=edges_apart h g hg
 unfold nodeL
 rw [nd_mem,nd_mem]
 refine ⟨⟨by omega,?_⟩,⟨by omega,?_⟩⟩
 ·rw [e1,ca];simp
 ·rw [e2,cb];simp
theorem order_good {h:List Ev} (hw:WF h) (level:Int):(∃ o,orderL (nodeL h) (stepsL level (edgesL h))=some o)↔noWalk (stepsL level (edgesL h)) :=
 order_iff _ _ (fun s hs=>steps_nodes hw level s hs)
theorem at_no (h:List Ev) (i:Nat) (hc:¬ countsL h i):atL h i=(0,0,0):=by
 unfold atL
 rw [if_pos]
 cases hb:countsB h i with
 | false=>rfl
 | true=>exact absurd ((counts_iff h i).1 hb) hc
theorem at_own (h:List Ev) (i k:Nat) (hc:countsL h i) (hl:lastN h (ev h i).2.1 (ev h i).2.2.1 i=some k):atL h i=if (ev h k).2.2.2=(ev h i).2.2.2 then (0,0,0) else (3,(i:Int),(k:Int)):=by
 unfold atL
 rw [if_neg (by rw [(counts_iff h i).2 hc];simp),hl]
theorem at_empty (h:List Ev) (i:Nat) (hl:lastN h (ev h i).2.1 (ev h i).2.2.1 i=none) (hv:(ev h i).2.2.2=[]):atL h i=(0,0,0):=by
 unfold atL
 by_cases hc:countsB h i=false
 ·rw [if_pos hc]
 ·rw [if_neg hc,hl];simp only;rw [if_pos hv]
def Shows (h:List Ev) (i:Nat) (b:Int × Int × Int) (j:Nat):Prop :=
 b.2.1=(i:Int)∧b.2.2=(j:Int)∧countsL h i∧j < h.length∧(ev h j).1=3∧(ev h j).2.2.1=(ev h i).2.2.1 ∧
 ((b.1=1∧commL h (ev h j).2.1=none∧(ev h j).2.2.2=(ev h i).2.2.2∧(ev h j).2.1≠(ev h i).2.1) ∨
  (b.1=2∧(∃ e,commL h (ev h j).2.1=some e)∧(ev h j).2.2.2≠(ev h i).2.2.2∧(ev h j).2.1≠(ev h i).2.1) ∨
  (b.1=3∧(ev h j).2.1=(ev h i).2.1∧j < i∧(ev h j).2.2.2≠(ev h i).2.2.2) ∨
  (b.1=4∧(ev h j).2.1=(ev h i).2.1∧i < j∧(ev h j).2.2.2=(ev h i).2.2.2))
theorem at_shows {h:List Ev} (hw:WF h) (i:Nat):atL h i=(0,0,0)∨∃ j,Shows h i (atL h i) j:=by
 by_cases hc:countsL h i
 ·cases hl:lastN h (ev h i).2.1 (ev h i).2.2.1 i with
  | some k =>
    rw [at_own h i k hc hl]
    obtain ⟨l1,l2,l3⟩:=(lastN_some _ _ _ _ _).1 hl
    have hilt:=hc.1
    by_cases hv:(ev h k).2.2.2=(ev h i).2.2.2
    ·rw [if_pos hv];exact .inl rfl
    ·rw [if_neg hv]
     exact .inr ⟨k,rfl,rfl,hc,by omega,l2.1,l2.2.2,.inr (.inr (.inl ⟨rfl,l2.2.1,l1,hv⟩))⟩
  | none =>
    by_cases hv:(ev h i).2.2.2=[]
    ·exact .inl (at_empty h i hl hv)
    ·have e0:atL h i=match writerL h (ev h i).2.2.1 (ev h i).2.2.2 with
      | none=>(0,0,0)
      | some w=>if (ev h w).2.1=(ev h i).2.1 then (4,(i:Int),(w:Int)) else
        match commL h (ev h w).2.1 with
        | none=>(1,(i:Int),(w:Int))
        | some e=>if lastN h (ev h w).2.1 (ev h i).2.2.1 (min h.length e)=some w then (0,0,0) else (2,(i:Int),oI (lastN h (ev h w).2.1 (ev h i).2.2.1 (min h.length e))):=by
      unfold atL
      rw [if_neg (by rw [(counts_iff h i).2 hc];simp),hl]
      simp only
      rw [if_neg hv]
      (try rfl)
     cases hwr:writerL h (ev h i).2.2.1 (ev h i).2.2.2 with
     | none=>rw [hwr] at e0;exact .inl e0
     | some w =>
       rw [hwr] at e0
       simp only at e0
       obtain ⟨w1,w2,w3⟩:=(writerL_some _ _ _ _).1 hwr
       by_cases ht:(ev h w).2.1=(ev h i).2.1
       ·rw [if_pos ht] at e0
        rw [e0]
        have hne:w≠i:=fun he=>by rw [he] at w2;have:=hc.2.1;rw [w2.1] at this;cases this
        have hlt:¬ w < i:=fun hh=>(lastN_none _ _ _ _).1 hl w hh ⟨w2.1,ht,w2.2.1⟩
        exact .inr ⟨w,rfl,rfl,hc,w1,w2.1,w2.2.1,.inr (.inr (.inr ⟨rfl,ht,by omega,w2.2.2⟩))⟩
       ·rw [if_neg ht] at e0
        cases hm:commL h (ev h w).2.1 with
        | none =>
          rw [hm] at e0
          rw [e0]
          exact .inr ⟨w,rfl,rfl,hc,w1,w2.1,w2.2.1,.inl ⟨rfl,hm,w2.2.2,ht⟩⟩
        | some e =>
          rw [hm] at e0
          simp only at e0
          obtain ⟨c1,c2⟩:=(commL_some _ _ _).1 hm
          obtain ⟨q1,q2,q3⟩:=(endL_some _ _ _ _).1 c1
          rw [Nat.min_eq_right (by omega)] at e0
          by_cases hlw:lastN h (ev h w).2.1 (ev h i).2.2.1 e=some w
          ·rw [if_pos hlw] at e0;exact .inl e0
          ·rw [if_neg hlw] at e0
           obtain ⟨f',e',g0,g1,g2,g3,g4,g5,g6⟩:=wf_life hw w1
           rw [c1] at g1
           cases g1
           have hwe:w≠e:=fun he=>by rw [he,c2] at w2;cases w2.1
           cases hm2:lastN h (ev h w).2.1 (ev h i).2.2.1 e with
           | none=>exact absurd ⟨w2.1,rfl,w2.2.1⟩ ((lastN_none _ _ _ _).1 hm2 w (by omega))
           | some m =>
             rw [hm2] at e0 hlw
             obtain ⟨m1,m2,m3⟩:=(lastN_some _ _ _ _ _).1 hm2
             have hmw:w < m:=by
              rcases Nat.lt_trichotomy w m with hh | hh | hh
              ·exact hh
              ·exact absurd (by rw [hh]) hlw
              ·exact absurd ⟨w2.1,rfl,w2.2.1⟩ (m3 w hh (by omega))
             rw [e0]
             refine .inr ⟨m,rfl,rfl,hc,by omega,m2.1,m2.2.2,.inr (.inl ⟨rfl,⟨e,by rw [m2.2.1];exact hm⟩,?_,by rw [m2.2.1];exact ht⟩)⟩
             have:=wf_vals hw (by omega) m2.1 hmw w2.1
             rw [w2.2.2] at this
             exact fun he=>this he.symm
 ·exact .inl (at_no h i hc)
open Go.RowKit
abbrev Bd:=Int × Int × Int
def badV (x:Bd):List Value:=[.int .i64 x.1,.int .i64 x.2.1,.int .i64 x.2.2]
theorem badV_one (x:Bd):∀ u∈badV x,u.oneCell'=true:=by
 intro u hu
 simp [badV] at hu
 rcases hu with rfl | rfl | rfl<;>rfl
abbrev badA (x:Bd):Value:=.agg #[.int .i64 x.1,.int .i64 x.2.1,.int .i64 x.2.2]
theorem bad_info:(Tryz.prog.info? 25).map (fun i=>(i.zero,i.size,i.bytes))=some (some (.agg #[.int .i64 0,.int .i64 0,.int .i64 0]),3,24):=by kernel_rfl
theorem size_bad:(Tryz.prog.info? 25).map (·.size)=some 3:=by kernel_rfl
def BdRow (t:TypeId) (w:World) (L:List Bd) (e:Ending) (w':World):Prop:=∃ v,e=.returned v∧Below w.heap.size w w'∧w'.ownsRow w.heap.size t 3 v L.length (recV badV L)
def countI (h:List Ev) (i:Int):Bool:=decide (0≤i)&&countsB h i.toNat
def atI (h:List Ev) (i:Int):Bd:=if 0≤i then atL h i.toNat else (0,0,0)
def outerI (h:List Ev) (i:Int):Bool:=decide (0≤i)&&outerB h i.toNat
theorem count_out (h:List Ev) (i:Nat) (hi:¬ i < h.length):countsB h i=false:=by unfold countsB;rw [decide_eq_false hi];rfl
theorem count_kind (h:List Ev) (i:Nat) (hk:(ev h i).1≠2):countsB h i=false:=by unfold countsB;rw [decide_eq_false hk];simp
theorem count_open (h:List Ev) (i:Nat) (he:endL h (ev h i).2.1 h.length=none):countsB h i=false:=by
 unfold countsB commL
 rw [he]
 simp
theorem count_end (h:List Ev) (i e:Nat) (hi:i < h.length) (hk:(ev h i).1=2) (he:endL h (ev h i).2.1 h.length=some e):countsB h i=(decide (i < e)&&decide ((ev h e).1=4)):=by
 unfold countsB commL
 rw [he,decide_eq_true hi,decide_eq_true hk]
 simp only
 by_cases h4:(ev h e).1=4
 ·rw [if_pos h4,decide_eq_true h4];simp
 ·rw [if_neg h4,decide_eq_false h4];simp
theorem results_row1 {P:Program} {fn:Func} {p:Tmp} {ty:TypeId} (h:fn.results=#[.cell p ty]) (tmps:Array Value) (w:World) (g:Nat) (t:TypeId) (cs:Array Value) (fr:Nat × Nat) (d:TypeDesc)
 (hp:tmps.getD p undef=.pointer (some ⟨g,0,none⟩)) (hg:w.heap[g]?=some (.cells cs t fr))
 (hu:P.underlying ty=some d) (hd:(match d with | .struct _ | .array _ _=>true | _=>false)=true) (hi:(P.info? ty).map (·.size)=some cs.size) :
 (results fn tmps).run P w=.ok (.agg cs) w:=by
 have hp':tmps[p]?.getD undef=.pointer (some ⟨g,0,none⟩):=by simpa using hp
 simp [results,h,hp',asAddr,run_loadVar_row w g t ty cs fr d hg hu hd hi]
theorem SBox.put3 {w:World} {g:Nat} {t:TypeId} {p q r:Value} (h:SBox w g t #[p,q,r]) (a b c:Value):SBox (((w.setCell ⟨g,0,none⟩ a).setCell ⟨g,1,none⟩ b).setCell ⟨g,2,none⟩ c) g t #[a,b,c]:=((h.set 0 a).set 1 b).set 2 c
theorem bel_put3 {B:Nat} {a w:World} (h:Below B a w) {g:Nat} (hg:B≤g) (p q r:Value):Below B a (((w.setCell ⟨g,0,none⟩ p).setCell ⟨g,1,none⟩ q).setCell ⟨g,2,none⟩ r) :=
 ((h.setCell (p:=⟨g,0,none⟩) hg p).setCell (p:=⟨g,1,none⟩) hg q).setCell (p:=⟨g,2,none⟩) hg r
attribute [local go_sem] ba_size
abbrev vdC (v:Vd) (vo vr:Value):Array Value:=#[.int .i64 v.1,.bool v.2.1,vo,.int .i64 v.2.2.2.1.1,.int .i64 v.2.2.2.1.2.1,.int .i64 v.2.2.2.1.2.2,vr]
theorem size_vd:(Tryz.prog.info? 28).map (·.size)=some 7:=by kernel_rfl
def VRes (w:World) (r:Vd × Int) (e:Ending) (w':World):Prop:=∃ vo vr,e=.returned (.tuple #[.agg (vdC r.1 vo vr),.int .i64 r.2])∧Below w.heap.size w w' ∧
 w'.ownsRow w.heap.size 3 1 vo r.1.2.2.1.length (recV intV r.1.2.2.1)∧w'.ownsRow w.heap.size 71 5 vr r.1.2.2.2.2.length (recV edV r.1.2.2.2.2)
theorem SBox.put7 {W:World} {B t:Nat} {a b c d e f g:Value} (h:SBox W B t #[a,b,c,d,e,f,g]) (a' b' c' d' e' f' g':Value) :
 SBox (((((((W.setCell ⟨B,0,none⟩ a').setCell ⟨B,1,none⟩ b').setCell ⟨B,2,none⟩ c').setCell ⟨B,3,none⟩ d').setCell ⟨B,4,none⟩ e').setCell ⟨B,5,none⟩ f').setCell ⟨B,6,none⟩ g') B t #[a',b',c',d',e',f',g']:=by
 have h0:SBox (W.setCell ⟨B,0,none⟩ a') B t #[a',b,c,d,e,f,g]:=h.set 0 a'
 generalize W.setCell ⟨B,0,none⟩ a'=W0 at h0 ⊢
 have h1:SBox (W0.setCell ⟨B,1,none⟩ b') B t #[a',b',c,d,e,f,g]:=h0.set 1 b'
 generalize W0.setCell ⟨B,1,none⟩ b'=W1 at h1 ⊢
 have h2:SBox (W1.setCell ⟨B,2,none⟩ c') B t #[a',b',c',d,e,f,g]:=h1.set 2 c'
 generalize W1.setCell ⟨B,2,none⟩ c'=W2 at h2 ⊢
 have h3:SBox (W2.setCell ⟨B,3,none⟩ d') B t #[a',b',c',d',e,f,g]:=h2.set 3 d'
 generalize W2.setCell ⟨B,3,none⟩ d'=W3 at h3 ⊢
 have h4:SBox (W3.setCell ⟨B,4,none⟩ e') B t #[a',b',c',d',e',f,g]:=h3.set 4 e'
 generalize W3.setCell ⟨B,4,none⟩ e'=W4 at h4 ⊢
 have h5:SBox (W4.setCell ⟨B,5,none⟩ f') B t #[a',b',c',d',e',f',g]:=h4.set 5 f'
 generalize W4.setCell ⟨B,5,none⟩ f'=W5 at h5 ⊢
 exact h5.set 6 g'
theorem bel_put7 {n:Nat} {w W:World} {B:Nat} (h:Below n w W) (hb:n≤B) (a' b' c' d' e' f' g':Value) :
 Below n w (((((((W.setCell ⟨B,0,none⟩ a').setCell ⟨B,1,none⟩ b').setCell ⟨B,2,none⟩ c').setCell ⟨B,3,none⟩ d').setCell ⟨B,4,none⟩ e').setCell ⟨B,5,none⟩ f').setCell ⟨B,6,none⟩ g') :=
 ((((((h.setCell (p:=⟨B,0,none⟩) hb _).setCell (p:=⟨B,1,none⟩) hb _).setCell (p:=⟨B,2,none⟩) hb _).setCell (p:=⟨B,3,none⟩) hb _).setCell (p:=⟨B,4,none⟩) hb _).setCell (p:=⟨B,5,none⟩) hb _).setCell (p:=⟨B,6,none⟩) hb _
theorem owns_put7 {W:World} {A e k n B:Nat} {v:Value} {xs:List Value} (h:W.ownsRow A e k v n xs) (hne:some B≠v.ownBlock) (a' b' c' d' e' f' g':Value) :
 (((((((W.setCell ⟨B,0,none⟩ a').setCell ⟨B,1,none⟩ b').setCell ⟨B,2,none⟩ c').setCell ⟨B,3,none⟩ d').setCell ⟨B,4,none⟩ e').setCell ⟨B,5,none⟩ f').setCell ⟨B,6,none⟩ g').ownsRow A e k v n xs :=
 owns_keep7 (g:=B) (j:=6) (owns_keep7 (g:=B) (j:=5) (owns_keep7 (g:=B) (j:=4) (owns_keep7 (g:=B) (j:=3) (owns_keep7 (g:=B) (j:=2) (owns_keep7 (g:=B) (j:=1) (owns_keep7 (g:=B) (j:=0) h a' hne) b' hne) c' hne) d' hne) e' hne) f' hne) g' hne
theorem flat_next (l:List Stp) (k:Nat) (hk:k < l.length):flatL (l.take (k+1))=flatL (l.take k)++l[k].2.2:=by
 unfold flatL
 rw [List.take_succ_eq_append_getElem hk,List.flatMap_append]
 simp
theorem flat_take (l:List Stp) (k:Nat):(flatL (l.take k)).length≤(flatL l).length:=by
 have:flatL l=flatL (l.take k)++flatL (l.drop k):=by unfold flatL;rw [← List.flatMap_append,List.take_append_drop]
 rw [this,List.length_append]
 omega
theorem recE12_snoc (L:List Ed) (x:Ed):recV edV (L++[x])=recV edV L++edV x:=by rw [recV_append];simp [recV]
theorem chainR_at (level:Int):∀ (l:List Ed) (f:Ed),chainR level l f→∀ i (hi:i < l.length),relE level l[i] (if h:i+1 < l.length then l[i+1] else f)
 | [],_,_,i,hi=>absurd hi (by simp)
 | [e],f,h,i,hi=>by
   have:i=0:=by simp at hi;omega
   subst this
   have h':relE level e f:=h
   simpa using h'
 | e::e'::r,f,h,i,hi=>by
   obtain ⟨h1,h2⟩:=h
   cases i with
   | zero=>simpa using h1
   | succ i =>
     have ih:=chainR_at level (e'::r) f h2 i (by simpa using hi)
     have hb:(i+1 < (e'::r).length)↔(i+1+1 < (e::e'::r).length):=by simp
     by_cases hq:i+1 < (e'::r).length
     ·rw [dif_pos hq] at ih
      rw [dif_pos (hb.1 hq)]
      simpa using ih
     ·rw [dif_neg hq] at ih
      rw [dif_neg (fun hh=>hq (hb.2 hh))]
      simpa using ih
def nxtE (l:List Ed) (i:Nat):Ed:=l.getD ((i+1) % l.length) (0,0,0,0,0)
theorem cyc_at (level:Int) (l:List Ed) (h:cyc level l) (i:Nat) (hi:i < l.length):relE level l[i] (nxtE l i):=by
 cases l with
 | nil=>simp at hi
 | cons e r =>
   have:=chainR_at level (e::r) e h i hi
   unfold nxtE
   by_cases hq:i+1 < (e::r).length
   ·rw [dif_pos hq] at this
    rw [Nat.mod_eq_of_lt hq,List.getD_eq_getElem?_getD,List.getElem?_eq_getElem hq]
    exact this
   ·rw [dif_neg hq] at this
    have e1:i+1=(e::r).length:=by omega
    rw [e1,Nat.mod_self]
    exact this
def plN (l:List Int) (x:Int):Option Nat:=fi (fun j=>decide (l.getD j 0=x)) l.length
theorem plN_some (l:List Int) (x:Int) (k:Nat):plN l x=some k↔k < l.length∧l.getD k 0=x∧∀ j,j < k→l.getD j 0≠x:=by
 unfold plN
 rw [fi_some]
 simp
theorem plN_none (l:List Int) (x:Int):plN l x=none↔∀ j,j < l.length→l.getD j 0≠x:=by
 unfold plN
 rw [fi_none]
 simp
theorem getD_in {l:List Int} {k:Nat} (hk:k < l.length):l.getD k 0=l[k]:=by rw [List.getD_eq_getElem?_getD,List.getElem?_eq_getElem hk];rfl
theorem plN_mem (l:List Int) (x:Int):plN l x≠none↔x∈l:=by
 rw [ne_eq,plN_none]
 constructor
 ·intro hh
  apply Classical.byContradiction
  intro hn
  apply hh
  intro j hj e
  rw [getD_in hj] at e
  exact hn (by rw [← e];exact List.getElem_mem hj)
 ·intro hm hh
  obtain ⟨j,hj,e⟩:=List.getElem_of_mem hm
  exact hh j hj (by rw [getD_in hj];exact e)
theorem nodup_at {l:List Int} (h:l.Nodup) {i j:Nat} (hi:i < l.length) (hj:j < l.length) (e:l[i]=l[j]):i=j:=by
 have hp:=List.pairwise_iff_getElem.1 h
 rcases Nat.lt_trichotomy i j with hh | hh | hh
 ·exact absurd e (hp i j hi hj hh)
 ·exact hh
 ·exact absurd e.symm (hp j i hj hi hh)
def goesF (o:List Int) (s:Stp):Bool:=decide (oI (plN o s.1) < oI (plN o s.2.1))
def aheadB (h:List Ev) (level:Int) (o:List Int):Bool:=decide ((nodeL h).length=o.length)&&(nodeL h).all (fun x=>decide (plN o x≠none))&&(stepsL level (edgesL h)).all (goesF o)
theorem ahead_iff (h:List Ev) (level:Int) (o:List Int):aheadB h level o=true↔(nodeL h).length=o.length∧(∀ x∈nodeL h,x∈o)∧∀ s∈stepsL level (edgesL h),oI (plN o s.1) < oI (plN o s.2.1):=by
 unfold aheadB goesF
 simp only [Bool.and_eq_true,List.all_eq_true,decide_eq_true_eq,plN_mem,and_assoc]
def okR13 (h:List Ev) (level:Int) (x y:Ed):Bool:=holdsC h x&&decide (x.2.2.1=y.2.1)&&!(decide (level=2)&&decide (x.1=3)&&decide (y.1=3))
theorem okR13_iff (h:List Ev) (level:Int) (x y:Ed):okR13 h level x y=true↔holdsL h x∧relE level x y:=by
 unfold okR13 relE
 rw [Bool.and_eq_true,Bool.and_eq_true,holdsC_iff,decide_eq_true_eq,and_assoc]
 simp only [Bool.not_eq_true',Bool.and_eq_false_iff,decide_eq_false_iff_not]
 constructor
 ·rintro ⟨a,b,c⟩
  exact ⟨a,b,fun ⟨d1,d2,d3⟩=>by
   rcases c with (c | c) | c
   ·exact c d1
   ·exact c d2
   ·exact c d3⟩
 ·rintro ⟨a,b,c⟩
  refine ⟨a,b,?_⟩
  by_cases d1:level=2
  ·by_cases d2:x.1=3
   ·exact .inr fun d3=>c ⟨d1,d2,d3⟩
   ·exact .inl (.inr d2)
  ·exact .inl (.inl d1)
def nx13 (l:List Ed) (i:Nat):Ed:=if i+1 < l.length then l.getD (i+1) (0,0,0,0,0) else l.getD 0 (0,0,0,0,0)
def at13 (l:List Ed) (i:Nat):Ed:=l.getD i (0,0,0,0,0)
def roundB (h:List Ev) (level:Int) (l:List Ed):Bool:=(List.range l.length).all (fun i=>okR13 h level (at13 l i) (nx13 l i))&&decide (0 < l.length)
theorem at13_get {l:List Ed} {i:Nat} (hi:i < l.length):at13 l i=l[i]:=by unfold at13;rw [List.getD_eq_getElem?_getD,List.getElem?_eq_getElem hi];rfl
theorem nx13_eq (l:List Ed) (i:Nat) (hi:i < l.length):nx13 l i=nxtE l i:=by
 unfold nx13 nxtE
 by_cases h1:i+1 < l.length
 ·rw [if_pos h1,Nat.mod_eq_of_lt h1]
 ·rw [if_neg h1,show i+1=l.length by omega,Nat.mod_self]
theorem chainR_of (level:Int):∀ (l:List Ed) (f:Ed),(∀ i (hi:i < l.length),relE level l[i] (if h:i+1 < l.length then l[i+1] else f))→chainR level l f
 | [],_,_=>trivial
 | [e],f,h=>by
   have:=h 0 (by simp)
   show relE level e f
   simpa using this
 | e::e'::r,f,h=>by
   refine ⟨?_,chainR_of level (e'::r) f (fun i hi=>?_)⟩
   ·have:=h 0 (by simp)
    simpa using this
   ·have:=h (i+1) (by simpa using hi)
    by_cases hq:i+1 < (e'::r).length
    ·rw [dif_pos hq]
     rw [dif_pos (by simpa using hq)] at this
     simpa using this
    ·rw [dif_neg hq]
     rw [dif_neg (by simpa using hq)] at this
     simpa using this
theorem cyc_iff (level:Int) (l:List Ed):cyc level l↔0 < l.length∧∀ i (hi:i < l.length),relE level l[i] (nxtE l i):=by
 constructor
 ·intro h
  refine ⟨?_,fun i hi=>cyc_at level l h i hi⟩
  cases l with
  | nil=>exact absurd h (fun e=>e)
  | cons e r=>simp
 ·rintro ⟨h0,h⟩
  cases l with
  | nil=>simp at h0
  | cons e r =>
    refine chainR_of level (e::r) e (fun i hi=>?_)
    have:=h i hi
    unfold nxtE at this
    by_cases hq:i+1 < (e::r).length
    ·rw [dif_pos hq]
     rw [Nat.mod_eq_of_lt hq,List.getD_eq_getElem?_getD,List.getElem?_eq_getElem hq] at this
     exact this
    ·rw [dif_neg hq]
     rw [show i+1=(e::r).length by omega,Nat.mod_self] at this
     exact this
theorem round_iff (h:List Ev) (level:Int) (l:List Ed):roundB h level l=true↔cyc level l∧∀ x∈l,holdsL h x:=by
 unfold roundB
 rw [Bool.and_eq_true,List.all_eq_true,decide_eq_true_eq,cyc_iff]
 constructor
 ·rintro ⟨h1,h0⟩
  have key:∀ i (hi:i < l.length),holdsL h l[i]∧relE level l[i] (nxtE l i):=fun i hi=>by
   have:=(okR13_iff h level _ _).1 (h1 i (List.mem_range.2 hi))
   rw [at13_get hi,nx13_eq l i hi] at this
   exact this
  refine ⟨⟨h0,fun i hi=>(key i hi).2⟩,fun x hx=>?_⟩
  obtain ⟨i,hi,rfl⟩:=List.getElem_of_mem hx
  exact (key i hi).1
 ·rintro ⟨⟨h0,h1⟩,h2⟩
  refine ⟨fun i hi=>?_,h0⟩
  have hi:=List.mem_range.1 hi
  rw [okR13_iff,at13_get hi,nx13_eq l i hi]
  exact ⟨h2 _ (List.getElem_mem hi),h1 i hi⟩
theorem cyc_turns (level:Int):∀ (p q:List Ed),cyc level (p++q)→cyc level (q++p)
 | [],q,h=>by rw [List.append_nil];exact h
 | e::p,q,h=>by
   have h1:cyc level (e::(p++q)):=h
   have h2:=cyc_turn level e (p++q) h1
   rw [List.append_assoc] at h2
   have h3:=cyc_turns level p (q++[e]) h2
   rw [List.append_assoc] at h3
   exact h3
theorem round_turns (h:List Ev) (level:Int) (p q:List Ed):roundB h level (p++q)=roundB h level (q++p):=by
 apply Bool.eq_iff_iff.2
 rw [round_iff,round_iff]
 constructor
 ·rintro ⟨a,b⟩
  exact ⟨cyc_turns level p q a,fun x hx=>b x (by rcases List.mem_append.1 hx with hx | hx;exact List.mem_append.2 (.inr hx);exact List.mem_append.2 (.inl hx))⟩
 ·rintro ⟨a,b⟩
  exact ⟨cyc_turns level q p a,fun x hx=>b x (by rcases List.mem_append.1 hx with hx | hx;exact List.mem_append.2 (.inr hx);exact List.mem_append.2 (.inl hx))⟩
def atZ (h:List Ev) (i:Int):Int × Int × Int:=if 0≤i then atL h i.toNat else (0,0,0)
def checkV (h:List Ev) (v:Vd):Int :=
 if v.1≠1∧v.1≠2 then 1
 else if (formedL h).2≠0 then ((formedL h).2:Int)
 else if v.2.1=true then (if v.2.2.2.1.1≠0∨0 < v.2.2.2.2.length∨0 < (badsL h).length∨aheadB h v.1 v.2.2.1=false then 14 else 0)
 else if 0 < v.2.2.1.length then 14
 else if v.2.2.2.1.1≠0 then (if 0 < v.2.2.2.2.length∨atZ h v.2.2.2.1.2.1≠v.2.2.2.1 then 14 else 0)
 else if roundB h v.1 v.2.2.2.2=false then 14 else 0
theorem ahead_noWalk (h:List Ev) (level:Int) (o:List Int) (ha:aheadB h level o=true):noWalk (stepsL level (edgesL h)):=by
 obtain ⟨_,_,hs⟩:=(ahead_iff h level o).1 ha
 have go:∀ n x y,Walk (stepsL level (edgesL h)) (n+1) x y→oI (plN o x) < oI (plN o y):=by
  intro n
  induction n with
  | zero =>
    rintro x y ⟨s,hs',hw,rfl⟩
    obtain rfl:s.2.1=y:=hw
    exact hs s hs'
  | succ n ih =>
    rintro x y ⟨s,hs',hw,rfl⟩
    have h1:=hs s hs'
    have h2:=ih _ _ hw
    omega
 intro n a hn hw
 obtain ⟨m,rfl⟩:∃ m,n=m+1:=⟨n - 1,by omega⟩
 have:=go m a a hw
 omega
theorem check_right (h:List Ev) (v:Vd) (hc:checkV h v=0):(v.1=1∨v.1=2)∧WF h∧(v.2.1=true↔goodL h v.1):=by
 unfold checkV at hc
 by_cases h1:v.1≠1∧v.1≠2
 ·rw [if_pos h1] at hc;cases hc
 ·rw [if_neg h1] at hc
  have hl:v.1=1∨v.1=2:=by omega
  by_cases h2:(formedL h).2≠0
  ·rw [if_pos h2] at hc;omega
  ·rw [if_neg h2] at hc
   have hw:WF h:=(formed_ok h).1 (by omega)
   refine ⟨hl,hw,?_⟩
   by_cases h3:v.2.1=true
   ·rw [if_pos h3] at hc
    by_cases h4:v.2.2.2.1.1≠0∨0 < v.2.2.2.2.length∨0 < (badsL h).length∨aheadB h v.1 v.2.2.1=false
    ·rw [if_pos h4] at hc;cases hc
    ·refine ⟨fun _=>⟨(bads_nil h).1 (List.length_eq_zero_iff.1 (by omega)),?_⟩,fun _=>h3⟩
     refine ahead_noWalk h v.1 v.2.2.1 ?_
     cases hh:aheadB h v.1 v.2.2.1 with
     | true=>rfl
     | false=>exact absurd (.inr (.inr (.inr hh))) h4
   ·rw [if_neg h3] at hc
    refine ⟨fun hh=>absurd hh h3,fun hg=>?_⟩
    exfalso
    by_cases h4:0 < v.2.2.1.length
    ·rw [if_pos h4] at hc;cases hc
    ·rw [if_neg h4] at hc
     by_cases h5:v.2.2.2.1.1≠0
     ·rw [if_pos h5] at hc
      by_cases h6:0 < v.2.2.2.2.length∨atZ h v.2.2.2.1.2.1≠v.2.2.2.1
      ·rw [if_pos h6] at hc;cases hc
      ·have h7:atZ h v.2.2.2.1.2.1=v.2.2.2.1:=Classical.byContradiction fun hh=>h6 (.inr hh)
       unfold atZ at h7
       by_cases h8:0≤v.2.2.2.1.2.1
       ·rw [if_pos h8] at h7
        by_cases h9:v.2.2.2.1.2.1.toNat < h.length
        ·have:=hg.1 _ h9
         rw [h7] at this
         exact h5 this
        ·rw [at_no h _ (fun hh=>h9 hh.1)] at h7
         rw [← h7] at h5
         exact h5 rfl
       ·rw [if_neg h8] at h7
        rw [← h7] at h5
        exact h5 rfl
     ·rw [if_neg h5] at hc
      by_cases h6:roundB h v.1 v.2.2.2.2=false
      ·rw [if_pos h6] at hc;cases hc
      ·have h7:roundB h v.1 v.2.2.2.2=true:=by
        cases hh:roundB h v.1 v.2.2.2.2 with
        | true=>rfl
        | false=>exact absurd hh h6
       obtain ⟨r1,r2⟩:=(round_iff h v.1 _).1 h7
       obtain ⟨n,a,n1,n2⟩:=round_ring hw hg.1 v.1 hl _ r1 r2
       exact hg.2 n a n1 n2
theorem checkV_turned (h:List Ev) (v x:Vd) (hl:v.1=x.1) (ha:v.2.1≠x.2.1) (hc:checkV h v=0):checkV h x=14:=by
 obtain ⟨c1,c2,c3⟩:=check_right h v hc
 have hx:checkV h x≠0:=fun h0=>by
  obtain ⟨d1,d2,d3⟩:=check_right h x h0
  rw [← hl] at d3
  apply ha
  exact Bool.eq_iff_iff.2 (c3.trans d3.symm)
 have hf:=(formed_ok h).2 c2
 unfold checkV at hx ⊢
 rw [hl] at c1
 rw [if_neg (by omega),if_neg (fun e=>e hf)] at hx ⊢
 repeat' split at hx
 all_goals first | exact absurd rfl hx | skip
 all_goals simp_all
theorem at_place (h:List Ev) (i:Nat) (h0:(atL h i).1≠0):(atL h i).2.1=(i:Int):=by
 unfold atL at h0 ⊢
 repeat' split at h0
 all_goals first | (exfalso;revert h0;decide) | skip
 all_goals simp_all
theorem order_ahead {h:List Ev} (hw:WF h) (level:Int) (o:List Int) (ho:orderL (nodeL h) (stepsL level (edgesL h))=some o):aheadB h level o=true:=by
 obtain ⟨h1,h2,h3⟩:=orderF_some _ (nodeL h).length (nodeL h) o (Nat.le_refl _) ho
 have nd:(nodeL h).Nodup:=List.Pairwise.imp (fun {a b} hlt e=>by omega) (nd_sorted h 301)
 rw [ahead_iff]
 refine ⟨((List.perm_ext_iff_of_nodup h1 nd).2 h2).length_eq.symm,fun x hx=>(h2 x).2 hx,fun s hs=>?_⟩
 obtain ⟨n1,n2⟩:=steps_nodes hw level s hs
 obtain ⟨p,q,r,e⟩:=h3 s hs n1 n2
 have at1:plN o s.1=some p.length:=by
  rw [plN_some]
  refine ⟨by rw [e];simp,by rw [e];simp [List.getD_eq_getElem?_getD],fun j hj hh=>?_⟩
  have hjl:j < o.length:=by rw [e];simp;omega
  rw [getD_in hjl] at hh
  have h4:o[p.length]'(by rw [e];simp)=s.1:=by simp [e]
  have:=nodup_at h1 hjl (by rw [e];simp) (hh.trans h4.symm)
  omega
 have at2:plN o s.2.1=some (p.length+1+q.length):=by
  have hb:p.length+1+q.length < o.length:=by rw [e];simp;omega
  have h4:o[p.length+1+q.length]'hb=s.2.1:=by
   have:o[p.length+1+q.length]?=some s.2.1:=by
    rw [e,List.getElem?_append_right (by simp;omega)]
    simp
    rw [show p.length+1+q.length - (p.length+(q.length+1))=0 by omega]
    rfl
   rw [List.getElem?_eq_getElem hb] at this
   exact Option.some.inj this
  rw [plN_some]
  refine ⟨hb,by rw [getD_in hb];exact h4,fun j hj hh=>?_⟩
  rw [getD_in (by omega)] at hh
  have:=nodup_at h1 (by omega) hb (hh.trans h4.symm)
  omega
 rw [at1,at2]
 simp only [oI]
 omega
theorem check_takes (h:List Ev) (level:Int) (hj:(judgeL h level).2=0):checkV h (judgeL h level).1=0:=by
 by_cases hl:level=1∨level=2
 ·by_cases hf:(formedL h).2=0
  ·have hw:=(formed_ok h).1 hf
   cases hb:badsL h with
   | cons b r =>
     rw [judge_bad h level hl hf b r hb]
     have hm:b∈badsL h:=by rw [hb];exact List.mem_cons_self ..
     unfold badsL at hm
     obtain ⟨i,hi,hi2⟩:=List.mem_filterMap.1 hm
     have hi:=List.mem_range.1 hi
     by_cases h0:(atL h i).1=0
     ·rw [if_pos h0] at hi2;cases hi2
     ·rw [if_neg h0] at hi2
      cases hi2
      unfold checkV
      simp only
      rw [if_neg (by omega),if_neg (fun e=>e hf),if_neg (by decide),if_neg (by simp),if_pos h0,if_neg]
      rintro (hh | hh)
      ·simp at hh
      ·apply hh
       unfold atZ
       rw [at_place h i h0,if_pos (by omega),Int.toNat_natCast]
   | nil =>
     have hc:=(bads_nil h).1 hb
     cases ho:orderL (nodeL h) (stepsL level (edgesL h)) with
     | some o =>
       rw [judge_order h level hl hf hb o ho]
       unfold checkV
       simp only
       rw [if_neg (by omega),if_neg (fun e=>e hf),if_pos trivial,if_neg]
       rintro (hh | hh | hh | hh)
       ·exact hh rfl
       ·simp at hh
       ·rw [hb] at hh;simp at hh
       ·rw [order_ahead hw level o ho] at hh;cases hh
     | none =>
       rw [judge_ring h level hl hf hb ho]
       unfold checkV
       simp only
       rw [if_neg (by omega),if_neg (fun e=>e hf),if_neg (by decide),if_neg (by simp),if_neg (by simp),if_neg]
       rw [Bool.not_eq_false,round_iff]
       cases hq:ringL (stepsL level (edgesL h)) with
       | none =>
         obtain ⟨o,e⟩:=(order_good hw level).2 ((ring_iff _).1 hq)
         rw [ho] at e
         cases e
       | some r =>
         obtain ⟨f1,f2⟩:=flat_ring level (edgesL h) r hq
         exact ⟨f1,fun x hx=>edges_hold hw x (f2 x hx)⟩
  ·rw [judge_form h level hl hf] at hj
   simp only at hj
   omega
 ·rw [judge_arg h level (by omega) (by omega)] at hj
  cases hj
theorem ahead_levels (h:List Ev) (o:List Int) (ha:aheadB h 1 o=true):aheadB h 2 o=true:=by
 obtain ⟨a1,a2,a3⟩:=(ahead_iff h 1 o).1 ha
 refine (ahead_iff h 2 o).2 ⟨a1,a2,fun s hs=>?_⟩
 have one:∀ e∈edgesL h,oI (plN o e.2.1) < oI (plN o e.2.2.1):=fun e he=>a3 (one1 e) (steps_one 1 _ e he (.inl rfl))
 rcases steps_cases 2 (edgesL h) s hs with ⟨e,he,_,rfl⟩ | ⟨_,e,he,g,hg,_,_,hm,rfl⟩
 ·exact one e he
 ·have h1:=one e he
  have h2:=one g hg
  rw [hm] at h2
  show oI (plN o e.2.1) < oI (plN o g.2.2.1)
  omega
theorem round_levels (h:List Ev) (l:List Ed) (ha:roundB h 2 l=true):roundB h 1 l=true:=by
 obtain ⟨a1,a2⟩:=(round_iff h 2 l).1 ha
 refine (round_iff h 1 l).2 ⟨?_,a2⟩
 rw [cyc_iff] at a1 ⊢
 exact ⟨a1.1,fun i hi=>⟨(a1.2 i hi).1,fun e=>absurd e.1 (by decide)⟩⟩
theorem ahead_once (h:List Ev) (level:Int) (o:List Int) (ha:aheadB h level o=true):(nodeL h).length=o.length∧∀ x∈nodeL h,o.count x=1:=by
 obtain ⟨a1,a2,_⟩:=(ahead_iff h level o).1 ha
 have nd:(nodeL h).Nodup:=List.Pairwise.imp (fun {a b} hlt e=>by omega) (nd_sorted h 301)
 refine ⟨a1,fun x hx=>?_⟩
 have h1:0 < o.count x:=List.count_pos_iff.2 (a2 x hx)
 apply Classical.byContradiction
 intro hne
 have h2:1 < o.count x:=by omega
 have sub:nodeL h ⊆ o.erase x:=fun y hy=>by
  by_cases e:y=x
  ·subst e
   apply List.count_pos_iff.1
   rw [List.count_erase_self]
   omega
  ·exact (List.mem_erase_of_ne e).2 (a2 y hy)
 have hle:=List.Nodup.length_le_of_subset nd sub
 rw [List.length_erase_of_mem (a2 x hx)] at hle
 have:=List.length_pos_of_mem (a2 x hx)
 omega
def okV (v:Vd):Prop:=okN v.1∧(okN v.2.2.2.1.1∧okN v.2.2.2.1.2.1∧okN v.2.2.2.1.2.2)∧(∀ x∈v.2.2.1,okN x)∧(∀ x∈v.2.2.2.2,goodEd x)∧v.2.2.1.length≤17592186043904
structure P13C:Prop where
 check:∀ (h:List Ev) (vh vo vr:Value) (v:Vd) (w:World),IsEvs w vh h→(∀ x∈h,goodE x)→fewH h→okV v→IsInts w vo v.2.2.1→IsEds w vr v.2.2.2.2→v.2.2.2.2.length≤1000000→Calls Tryz.prog 12 #[vh,.agg (vdC v vo vr)] w fun e w'=>e=.returned (.int .i64 (checkV h v))∧Below w.heap.size w w'
 ahead:∀ (h:List Ev) (vh vo:Value) (level:Int) (o:List Int) (w:World),IsEvs w vh h→(∀ x∈h,goodE x)→fewH h→okN level→(∀ x∈o,okN x)→IsInts w vo o→o.length≤17592186043904→Calls Tryz.prog 14 #[vh,.int .i64 level,vo] w fun e w'=>e=.returned (.bool (aheadB h level o))∧Below w.heap.size w w'
 round:∀ (h:List Ev) (vh vl:Value) (level:Int) (l:List Ed) (w:World),IsEvs w vh h→(∀ x∈h,goodE x)→fewH h→okN level→(∀ x∈l,goodEd x)→IsEds w vl l→l.length≤1000000→Calls Tryz.prog 16 #[vh,.int .i64 level,vl] w fun e w'=>e=.returned (.bool (roundB h level l))∧Below w.heap.size w w'
end Go.Proofs.YtdlcimfifkhllaaGreat
