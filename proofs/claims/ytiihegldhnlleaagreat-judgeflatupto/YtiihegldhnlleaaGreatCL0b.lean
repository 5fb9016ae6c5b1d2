/-
  A region that draws its order, some of whose operations read what nothing ahead of operation d changes (C): these first; then what is left, C being kept: of no
-/
import Derived.Test.YtiihegldhnlleaaGreatCL0a
import Derived.RangeFuncCalls
import Derived.OrdersIn
import Derived.TacticsIn
import Derived.RangeFuncNested
import Derived.RangeFuncBound
import Derived.RangeFuncLeaves
import Derived.RangeFuncBox
import Derived.Shelf.Abstract
import Derived.Shelf.RegionOpen
import Derived.OwnWalkIn
import Derived.TacticsInMore
import Derived.LoopNIn
import Derived.LoopIn
import Derived.Lib.Hide
import Derived.Deep.QuietTactic
namespace Go.Proofs.YtiihegldhnlleaaGreat
set_option maxRecDepth 100000
open Go.RowKit
set_option linter.unusedVariables false
section
variable {P:Program} {ops:Array Oper} {md:Region.Mode} {Q:Exit→Act→World→Prop}
def wpAnyC (C:World→Prop) (d:Nat) (P:Program) (md:Region.Mode) (ops:Array Oper) (Q:Exit→Act→World→Prop):Nat→Array Bool→Act→World→Prop
 | 0,listed,a,w=>wpAny P md ops Q 0 listed a w∧(listed.getD d false=false→C w)
 | f+1,listed,a,w=>(listed.getD d false=true∧wpAny P md ops Q (f+1) listed a w) ∨
     (listed.getD d false=false∧C w∧(Region.ready md ops listed=[]→Q .normal a w)∧∀ i∈Region.ready md ops listed,wpOp P ops Q i (wpAnyC C d P md ops Q f (listed.setIfInBounds i true)) a w)
theorem any_of_C {C:World→Prop} (d:Nat):∀ (f:Nat) (listed:Array Bool) (a:Act) (w:World),wpAnyC C d P md ops Q f listed a w→wpAny P md ops Q f listed a w
 | 0,_,_,_,h=>h.1
 | f+1,listed,a,w,h=>by
   rcases h with h | ⟨_,_,h1,h2⟩
   ·exact h.2
   ·exact ⟨h1,fun i hi=>wpOp_mono (fun a' w' h'=>any_of_C d f _ a' w' h') (h2 i hi)⟩
def YieldsC (C:World→Prop) (P:Program) (ops:Array Oper) (o:Oper) (v:Value) (a:Act):Prop :=
 (Region.wanted o (yielded ops a.tmps)=true∧∀ w,C w→(execOp a.eval o).run P w=.ok (.value v) w)∨(Region.wanted o (yielded ops a.tmps)=false∧v=undef)
theorem YieldsC.op {C:World→Prop} {i:Nat} {o:Oper} {v:Value} {a:Act} (hi:ops[i]?=some o) (hy:YieldsC C P ops o v a) {K:Act→World→Prop} {w:World} (hC:C w) (h:K (a.put o.dst v) w):wpOp P ops Q i K a w:=by
 unfold wpOp
 simp only [hi]
 rcases hy with ⟨hw,hv⟩ | ⟨hw,rfl⟩
 ·simp only [hw,if_true,Oper.wp,hv w hC,Oper.upon];exact .inl h
 ·simp only [hw,Bool.false_eq_true,if_false];exact h
theorem YieldsC.same {C:World→Prop} {o:Oper} {v:Value} {a a':Act} (hy:YieldsC C P ops o v a) (he:execOp a'.eval o=execOp a.eval o) (hw:Region.wanted o (yielded ops a'.tmps)=Region.wanted o (yielded ops a.tmps)):YieldsC C P ops o v a':=by
 unfold YieldsC at *
 rw [he,hw]
 exact hy
theorem wpOp_putC {C:World→Prop} {j:Nat} {oi oj:Oper} {v:Value} (hj:ops[j]?=some oj) (hap:oi.apart ops oj=true)
 (hsi:∀ cs b,oi.op≠.select cs b) (hsj:∀ cs b,oj.op≠.select cs b)
 (hQ:∀ c a w,Q (.panic c) (a.put oi.dst v) w→Q (.panic c) a w) {K:Act→World→Prop} {a:Act} {w:World}
 (hy:YieldsC C P ops oi v a) (h:wpOp P ops Q j K (a.put oi.dst v) w) :
 wpOp P ops Q j (fun a' w'=>YieldsC C P ops oi v a'∧K (a'.put oi.dst v) w') a w:=by
 obtain ⟨h1,h2,h3⟩:=Oper.apart_spec hap
 have keep:∀ (a:Act),YieldsC C P ops oi v a→∀ u,YieldsC C P ops oi v (a.put oj.dst u):=fun a hy u=>hy.same (execOp_put oi hsi a oj.dst u h3) (wanted_put oi a oj.dst u h3)
 have keepD:∀ d,YieldsC C P ops oi v { a with defers:=d::a.defers }:=fun d=>hy.same rfl rfl
 unfold wpOp at *
 simp only [hj] at *
 rw [wanted_put oj a oi.dst v h1] at h
 by_cases hw:Region.wanted oj (yielded ops a.tmps)=true
 ·rw [if_pos hw] at h ⊢
  rcases h with h | ⟨hasks,hlets⟩
  case inr=>exact .inr ⟨by unfold Oper.asks at *;rw [execOp_put oj hsj a oi.dst v h1] at hasks;exact hasks,hlets⟩
  refine .inl ?_
  unfold Oper.wp at *
  rw [execOp_put oj hsj a oi.dst v h1] at h
  generalize (execOp a.eval oj).run P w=r at *
  cases r with
  | ok n w' =>
    cases n<;>simp only [Oper.upon] at h ⊢
    case value u=>exact ⟨keep a hy u,by rw [← Act.put_comm a v u h2];exact h⟩
    case skip=>exact ⟨keep a hy _,by rw [← Act.put_comm a v undef h2];exact h⟩
    case defer d =>
     refine ⟨keep _ (keepD d) _,?_⟩
     rw [← Act.put_comm _ v undef h2,← Act.put_defers]
     exact h
    case enter f args =>
     refine Calls.mono h fun e w'' he=>?_
     cases e with
     | returned u=>exact ⟨keep a hy u,by rw [← Act.put_comm a v u h2];exact he⟩
     | panicked c=>exact hQ _ _ _ he
     | outgrown=>exact he
    case row row args=>exact Rows.mono h fun u w'' he=>⟨keep a hy u,by rw [← Act.put_comm a v u h2];exact he⟩
  | halt x w' =>
    cases x<;>simp only [Oper.upon] at h ⊢
    case panic u=>exact hQ _ _ _ h
 ·rw [if_neg hw] at h ⊢
  exact ⟨keep a hy _,by rw [← Act.put_comm a v undef h2];exact h⟩
theorem firstC {C:World→Prop} {d i:Nat} {oi:Oper} {v:Value} (hi:ops[i]?=some oi) (hsel:∀ (j:Nat) (o:Oper) cs b,ops[j]?=some o→o.op≠.select cs b)
 (hdw:Region.waitsFor md ops d i=true) (hQ:∀ c a w,Q (.panic c) (a.put oi.dst v) w→Q (.panic c) a w) :
 ∀ (f:Nat) (listed:Array Bool) (a:Act) (w:World),listed.getD d false=false →
   (∀ j oj,ops[j]?=some oj→j≠i→listed.getD j true=false→(∀ e∈oj.after,Region.binds md e=true→e.on≠i)→oi.apart ops oj=true) →
   i∈Region.ready md ops listed→YieldsC C P ops oi v a →
   wpAnyC C d P md ops Q f (listed.setIfInBounds i true) (a.put oi.dst v) w→wpAnyC C d P md ops Q (f+1) listed a w:=by
 have hnd:∀ (listed:Array Bool) j,i∈Region.ready md ops listed→j∈Region.ready md ops listed→j≠d:=fun listed j hr hj hjd=>by
  subst hjd
  obtain ⟨o',ho',e,he,hb,hon⟩:=Region.waitsFor_spec hdw
  obtain ⟨_,oj,hoj,hall⟩:=mem_ready.1 hj
  obtain rfl:o'=oj:=Option.some.inj (ho'.symm.trans hoj)
  have h4:=hall e he hb
  rw [hon,getD_both (mem_ready.1 hr).1] at h4
  cases h4
 intro f
 induction f with
 | zero =>
   intro listed a w hdl _ hr hy H
   have hid:i≠d:=hnd listed i hr hr
   refine .inr ⟨hdl,H.2 (by rw [getD_set_ne false hid];exact hdl),fun h=>(by rw [h] at hr;cases hr),fun j hj=>?_⟩
   by_cases hji:j=i
   ·subst hji;exact hy.op hi (H.2 (by rw [getD_set_ne false hid];exact hdl)) H
   ·have:=ready_mono hj hji
    rw [H.1.1] at this
    cases this
 | succ f ih =>
   intro listed a w hdl hfree hr hy H
   have hid:i≠d:=hnd listed i hr hr
   rcases H with H | H
   ·rw [getD_set_ne false hid,hdl] at H;cases H.1
   ·obtain ⟨hd1,hC,hn,H⟩:=H
    refine .inr ⟨hdl,hC,fun h=>(by rw [h] at hr;cases hr),fun j hj=>?_⟩
    by_cases hji:j=i
    ·subst hji;exact hy.op hi hC (.inr ⟨hd1,hC,hn,H⟩)
    ·have h1:=H j (ready_mono hj hji)
     obtain ⟨hjun,oj,hoj,hall⟩:=mem_ready.1 hj
     have hnot:∀ e∈oj.after,Region.binds md e=true→e.on≠i:=fun e he hb heq=>by
      have h1:=hall e he hb
      rw [heq,getD_both (mem_ready.1 hr).1] at h1
      cases h1
     have h2:=wpOp_putC hoj (hfree j oj hoj hji hjun hnot) (fun cs b=>hsel i oi cs b hi) (fun cs b=>hsel j oj cs b hoj) hQ hy h1
     refine wpOp_mono (fun a' w' h3=>ih (listed.setIfInBounds j true) a' w' (by rw [getD_set_ne false (hnd listed j hr hj)];exact hdl) (fun k ok hk hki hku hno=>?_) (ready_mono hr (Ne.symm hji)) h3.1 ?_) h2
     ·refine hfree k ok hk hki ?_ hno
      by_cases hjk:j=k
      ·subst hjk;exact hjun
      ·rw [getD_set_ne true hjk] at hku;exact hku
     ·rw [Array.setIfInBounds_comm _ _ hji]
      exact h3.2
theorem takeC {C:World→Prop} {d i:Nat} {oi:Oper} {v:Value} {f:Nat} {listed:Array Bool} {a:Act} {w:World} (hi:ops[i]?=some oi)
 (hs:Region.noSelect ops=true) (hf:Region.free md ops listed i=true) (hr:(Region.ready md ops listed).contains i=true) (hdw:Region.waitsFor md ops d i=true) (hdl:listed.getD d false=false)
 (hQ:∀ c a w,Q (.panic c) (a.put oi.dst v) w→Q (.panic c) a w) (hy:YieldsC C P ops oi v a)
 (h:wpAnyC C d P md ops Q f (listed.setIfInBounds i true) (a.put oi.dst v) w):wpAnyC C d P md ops Q (f+1) listed a w :=
 firstC hi (Region.noSelect_spec hs) hdw hQ f listed a w hdl (Region.free_spec hi hf) (by simpa using hr) hy h
theorem wpOp_of_list {i:Nat} {o:Oper} {K:Act→World→Prop} {a:Act} {w:World} (ho:ops[i]?=some o) (h:wpList P ops (Exit.then K Q) [o] a w):wpOp P ops Q i K a w:=by
 unfold wpOp
 simp only [ho]
 simp only [wpList] at h
 by_cases hw:Region.wanted o (yielded ops a.tmps)=true
 ·rw [if_pos hw] at h ⊢
  rcases h with h | ⟨h1,a0,w0,h2⟩
  ·refine .inl ?_
   unfold Oper.wp at *
   generalize (execOp a.eval o).run P w=r at *
   cases r with
   | ok n w' =>
     cases n<;>simp only [Oper.upon] at h ⊢
     case value u=>exact h
     case skip=>exact h
     case defer d=>exact h
     case enter f args =>
      refine Calls.mono h fun e w'' he=>?_
      cases e with
      | returned u=>exact he
      | panicked c=>exact he
      | outgrown=>exact he
     case row row args=>exact h
   | halt x w' =>
     cases x<;>simp only [Oper.upon] at h ⊢
     case panic u=>exact h
  ·exact .inr ⟨h1,a0,w0,h2⟩
 ·rw [if_neg hw] at h ⊢
  exact h
theorem consC {C:World→Prop} {d i:Nat} {o:Oper} {f:Nat} {listed:Array Bool} {a:Act} {w:World} (hr:Region.ready md ops listed=[i]) (hdl:listed.getD d false=false) (hC:C w) (ho:ops[i]?=some o)
 (h:∀ K:Act→World→Prop,(∀ a w,wpAnyC C d P md ops Q f (listed.setIfInBounds i true) a w→K a w)→wpList P ops (Exit.then K Q) [o] a w):wpAnyC C d P md ops Q (f+1) listed a w:=by
 refine .inr ⟨hdl,hC,fun h0=>(by rw [hr] at h0;cases h0),fun j hj=>?_⟩
 rw [hr] at hj
 obtain rfl:j=i:=by simpa using hj
 exact wpOp_of_list ho (h _ fun _ _ h=>h)
theorem lastC {C:World→Prop} {d:Nat} {f:Nat} {listed:Array Bool} {a:Act} {w:World} (hr:Region.ready md ops listed=[d]) (hdl:listed.getD d false=false) (hC:C w) (hlt:d < listed.size)
 (h:wpAny P md ops Q (f+1) listed a w):wpAnyC C d P md ops Q (f+1) listed a w:=by
 refine .inr ⟨hdl,hC,h.1,fun j hj=>?_⟩
 have hj':=hj
 rw [hr] at hj'
 obtain rfl:j=d:=by simpa using hj'
 refine wpOp_mono (fun a' w' h'=>?_) (h.2 j hj)
 have hd:(listed.setIfInBounds j true).getD j false=true:=by simp [hlt]
 cases f with
 | zero=>exact ⟨h',fun h0=>by rw [hd] at h0;cases h0⟩
 | succ f=>exact .inl ⟨hd,h'⟩
theorem rowsIn_of {l n:Nat} {row:String} {args:Array Value} {w:World} {R:Value→World→Prop} (h:Rows P row args w R):RowsIn (Fence.wide.inRound l) n P row args w R :=
 fun c cs _=>let ⟨v,w',r,s⟩:=h c cs;⟨v,w',r,stepsIn_wide.2 s⟩
def noDefer (ops:Array Oper):Bool:=ops.all fun o=>match o.op with | .defer _=>false | _=>true
theorem noDefer_spec (h:noDefer ops=true) (j:Nat) (o:Oper) (ho:ops[j]?=some o):∀ c,o.op≠.defer c:=by
 intro c heq
 have:=Array.all_eq_true_iff_forall_mem.1 h o (Array.mem_of_getElem? ho)
 simp [heq] at this
theorem opIn_of {l n:Nat} {o:Oper} {a:Act} {w:World} {K:Act→World→Prop} (hnd:∀ c,o.op≠.defer c) (h:o.wp P a w K Q):o.wpIn (Fence.wide.inRound l) n P a w K Q:=by
 unfold Oper.wpIn
 refine ⟨fun _ _=>trivial,?_⟩
 rw [show (Fence.wide.inRound l).round=some l from rfl,Oper.semAt_some l _ o hnd]
 unfold Oper.wp at h
 generalize (execOp a.eval o).run P w=r at *
 cases r with
 | ok n w' =>
   cases n<;>simp only [Oper.upon,Oper.uponIn] at h ⊢
   case value u=>exact h
   case skip=>exact h
   case defer d=>exact h
   case enter f args=>exact ⟨fun h0=>(by cases h0),CallsIn.inRound l (callsIn_wide.2 h)⟩
   case row row args=>exact ⟨fun h0=>(by cases h0),rowsIn_of h⟩
 | halt x w' =>
   cases x<;>simp only [Oper.upon,Oper.uponIn] at h ⊢
   case panic u=>exact h
theorem anyIn_of {l n:Nat} (hlo:¬ LetsOut Q) (hnd:noDefer ops=true):∀ (f:Nat) (listed:Array Bool) (a:Act) (w:World),wpAny P md ops Q f listed a w→wpAnyIn (Fence.wide.inRound l) n P md ops Q f listed a w
 | 0,_,_,_,h=>h
 | f+1,listed,a,w,h=>by
   refine ⟨h.1,fun i hi=>?_⟩
   have h1:=h.2 i hi
   unfold wpOp at h1
   unfold wpOpIn
   cases ho:ops[i]? with
   | none=>simp only [ho] at h1 ⊢;exact anyIn_of hlo hnd f _ _ _ h1
   | some o =>
     simp only [ho] at h1 ⊢
     by_cases hw:Region.wanted o (yielded ops a.tmps)=true
     ·rw [if_pos hw] at h1 ⊢
      rcases h1 with h1 | h1
      ·exact Oper.wpIn_mono (fun a' w' h'=>anyIn_of hlo hnd f _ a' w' h') (opIn_of (noDefer_spec hnd i o ho) h1)
      ·exact absurd h1.2 hlo
     ·rw [if_neg hw] at h1 ⊢
      exact ⟨fun _ _=>trivial,anyIn_of hlo hnd f _ _ _ h1⟩
theorem regionIn_any {l n id:Nat} {a:Act} {w:World} (hm:P.follows .mixedOrders=true) (hlo:¬ LetsOut Q) (hnd:noDefer ops=true)
 (h:wpAny P .any ops Q ops.size (Array.replicate ops.size false) a w.drew):(Code.region id ops true).wpIn (Fence.wide.inRound l) n P Q a w :=
 wpIn_region_any hm (anyIn_of hlo hnd _ _ _ _ h)
end
end Go.Proofs.YtiihegldhnlleaaGreat
namespace Go.Proofs.YtiihegldhnlleaaGreat
set_option maxRecDepth 100000
open Go.RowKit Go.Shelf
set_option linter.unusedVariables false
theorem cell_al {W:World} {a:Addr} {v:Value} (o:Obj) (h:W.cell? a=some v):(W.alloc o).cell? a=some v:=cell_kept h (World.grownBy_alloc W o none) (fun r e=>by cases e)
theorem owns_low {w:World} {B B' e k n:Nat} {v:Value} {xs:List Value} (h:w.ownsRow B e k v n xs) (hb:B'≤B):w.ownsRow B' e k v n xs:=by
 obtain ⟨h1,h2⟩:=h
 refine ⟨h1,?_⟩
 rcases h2 with h2 | ⟨g,cap,cur,hv,hbg,r⟩
 ·exact .inl h2
 ·exact .inr ⟨g,cap,cur,hv,by omega,r⟩
theorem keeps_of_below {W W':World} (h:Below W.heap.size W W'):KeepsOthers W W' :=
 ⟨h.size,fun k o hk _=>(h.block k (Array.getElem?_eq_some_iff.1 hk).1).trans hk⟩
theorem block_kept {W W':World} {row:Option Nat} {B t:Nat} {c:Array Value} (h:W.heap[B]?=some (.cells c t (0,0))) (hg:W.grownBy W' row) (hr:∀ r,row=some r→∃ o:Obj,W.heap[r]?=some o∧o.isCells=false):W'.heap[B]?=some (.cells c t (0,0)) :=
 (hg.block B (Array.getElem?_eq_some_iff.1 h).1 (fun e=>by obtain ⟨o,ho,hc⟩:=hr B e.symm;rw [h] at ho;cases ho;cases hc)).trans h
theorem block_not_row {W:World} {B t e:Nat} {c:Array Value} (h:W.heap[B]?=some (.cells c t (0,0))) (hte:t≠e) {base size k:Nat} {v:Value} {xs:List Value} (hr:W.ownsRow base e size v k xs):some B≠v.ownBlock:=by
 rcases hr.2 with ⟨rfl,_⟩ | ⟨g,cap,cur,rfl,_,hgb,_⟩
 ·simp [Value.ownBlock]
 ·intro e'
  obtain rfl:B=g:=by simpa [Value.ownBlock] using e'
  rw [h] at hgb
  simp at hgb
  exact hte hgb.2
theorem cell_of_block {W:World} {B t:Nat} {c:Array Value} {f:Nat × Nat} (h:W.heap[B]?=some (.cells c t f)) (j:Nat):W.cell? ⟨B,j,none⟩=c[j]?:=by simp [World.cell?,h]
end Go.Proofs.YtiihegldhnlleaaGreat
namespace Go.Proofs.YtiihegldhnlleaaGreat
set_option maxRecDepth 100000
open Go.RowKit
set_option linter.unusedVariables false
abbrev SVt:=Int × Int × Value
def stV (x:SVt):List Value:=[.int .i64 x.1,.int .i64 x.2.1,x.2.2]
theorem stV_len (x:SVt):(stV x).length=3:=rfl
theorem st_info:(Tryz.prog.info? 69).map (fun i=>(i.zero,i.size,i.bytes))=some (some (.agg #[.int .i64 0,.int .i64 0,.slice none 0 0]),3,40):=by kernel_rfl
theorem size_st:(Tryz.prog.info? 69).map (·.size)=some 3:=by kernel_rfl
structure StAt (W:World) (x:SVt) (s:Stp):Prop where
 from_:x.1=s.1
 to_:x.2.1=s.2.1
 eds:IsEds W x.2.2 s.2.2
def StOf (W:World) (L':List SVt) (L:List Stp):Prop:=L'.length=L.length∧∀ (i:Nat) x s,L'[i]?=some x→L[i]?=some s→StAt W x s
def IsSts (W:World) (v:Value) (L:List Stp):Prop:=∃ L',IsRec 3 stV W v L'∧StOf W L' L
def StRow (t:TypeId) (w:World) (L:List Stp) (e:Ending) (w':World):Prop:=∃ v L',e=.returned v∧Below w.heap.size w w'∧w'.ownsRow w.heap.size t 3 v L'.length (recV stV L')∧StOf w' L' L
theorem StOf.below {W W':World} {L':List SVt} {L:List Stp} (h:StOf W L' L) (hb:Below W.heap.size W W'):StOf W' L' L :=
 ⟨h.1,fun i x s hx hs=>⟨(h.2 i x s hx hs).from_,(h.2 i x s hx hs).to_,(h.2 i x s hx hs).eds.below hb⟩⟩
theorem IsSts.below {W W':World} {v:Value} {L:List Stp} (h:IsSts W v L) (hb:Below W.heap.size W W'):IsSts W' v L:=by
 obtain ⟨L',h1,h2⟩:=h
 exact ⟨L',h1.below hb,h2.below hb⟩
theorem IsSts.own {W:World} {B e:Nat} {v:Value} {L':List SVt} {L:List Stp} (h:W.ownsRow B e 3 v L'.length (recV stV L')) (hs:StOf W L' L) (hn:L'.length≤140737488351232):IsSts W v L :=
 ⟨L',IsRec.own stV_len (by omega) h hn,hs⟩
theorem IsSts.len {W:World} {v:Value} {L:List Stp} (h:IsSts W v L):∃ a cap,v=.slice a L.length cap∧L.length≤cap∧cap≤9223372036854775807∧L.length≤140737488351232:=by
 obtain ⟨L',h1,h2⟩:=h
 obtain ⟨a,cap,rfl,a1,a2,a3,_⟩:=h1.some_at
 rw [h2.1] at a1 a3 ⊢
 exact ⟨a,cap,rfl,a1,a2,a3⟩
theorem IsSts.reads {W:World} {v:Value} {L:List Stp} (h:IsSts W v L):∃ a cap,v=.slice a L.length cap∧L.length≤cap∧cap≤9223372036854775807∧L.length≤140737488351232 ∧
 Hid (∀ k (hk:k < L.length),∃ b off,a=some ⟨b,off,none⟩∧∃ u,IsEds W u L[k].2.2∧∀ V,Below W.heap.size W V→V.cell? ⟨b,off+k*3,none⟩=some (.int .i64 L[k].1)∧V.cell? ⟨b,off+k*3+1,none⟩=some (.int .i64 L[k].2.1)∧V.cell? ⟨b,off+k*3+2,none⟩=some u):=by
 obtain ⟨L',h1,h2⟩:=h
 obtain ⟨a,cap,rfl,a1,a2,a3,HC⟩:=h1.some_at
 have hl:=h2.1
 rw [hl] at a1 a3
 refine ⟨a,cap,by rw [hl],a1,a2,a3,?_⟩
 intro k hk
 have hk':k < L'.length:=by omega
 obtain ⟨b,off,rfl,hlt,hc⟩:=HC.out k hk'
 have g:=h2.2 k _ _ (List.getElem?_eq_getElem hk') (List.getElem?_eq_getElem hk)
 refine ⟨b,off,rfl,L'[k].2.2,g.eds,fun V hV=>?_⟩
 rw [← g.from_,← g.to_]
 exact ⟨(hV.cell (p:=⟨b,off+k*3,none⟩) hlt).trans (hc 0 _ rfl),(hV.cell (p:=⟨b,off+k*3+1,none⟩) hlt).trans (hc 1 _ rfl),(hV.cell (p:=⟨b,off+k*3+2,none⟩) hlt).trans (hc 2 _ rfl)⟩
def EdB (W:World) (v:Value) (l:List Ed):Prop:=∃ b,v=.slice (some ⟨b,0,none⟩) l.length l.length∧W.heap[b]?=some (.cells (recV edV l).toArray 54 (0,0))
theorem EdB.eds {W:World} {v:Value} {l:List Ed} (h:EdB W v l) (hl:l.length≤1000):IsEds W v l:=by
 obtain ⟨b,rfl,hb⟩:=h
 refine ⟨_,_,_,rfl,rfl,Nat.le_refl _,by omega,by omega,.inr ⟨b,0,rfl,(Array.getElem?_eq_some_iff.1 hb).1,fun i hi j u hu=>?_⟩⟩
 have hj:j < 5:=by rw [← edV_len l[i]];exact (List.getElem?_eq_some_iff.1 hu).1
 rw [cell_of_block hb,Nat.zero_add,List.getElem?_toArray,recV_get edV_len l i hi j hj]
 exact hu
theorem EdB.kept {W W':World} {v r:Value} {l:List Ed} {B e k n:Nat} {xs:List Value} (h:EdB W v l) (hr:W.ownsRow B e k r n xs) (hte:54≠e) (hg:W.grownBy W' r.ownBlock):EdB W' v l:=by
 obtain ⟨b,rfl,hb⟩:=h
 exact ⟨b,rfl,(hg.block b (Array.getElem?_eq_some_iff.1 hb).1 (block_not_row hb hte hr)).trans hb⟩
theorem EdB.below {W W':World} {v:Value} {l:List Ed} (h:EdB W v l) (hb:Below W.heap.size W W'):EdB W' v l:=by
 obtain ⟨b,rfl,hh⟩:=h
 exact ⟨b,rfl,(hb.block b (Array.getElem?_eq_some_iff.1 hh).1).trans hh⟩
theorem EdB.new (W:World) (l:List Ed):EdB (W.alloc (.cells (recV edV l).toArray 54)) (.slice (some ⟨W.heap.size,0,none⟩) l.length l.length) l:=⟨W.heap.size,rfl,World.alloc_heap_new W _⟩
def StB (W:World) (L':List SVt) (L:List Stp):Prop:=L'.length=L.length∧∀ (i:Nat) x s,L'[i]?=some x→L[i]?=some s→x.1=s.1∧x.2.1=s.2.1∧EdB W x.2.2 s.2.2∧s.2.2.length≤2
theorem StB.nil (W:World):StB W [] []:=⟨rfl,fun i x s h=>by simp at h⟩
theorem StB.of {W:World} {L':List SVt} {L:List Stp} (h:StB W L' L):StOf W L' L :=
 ⟨h.1,fun i x s hx hs=>by obtain ⟨a,b,c,d⟩:=h.2 i x s hx hs;exact ⟨a,b,c.eds (by omega)⟩⟩
theorem StB.below {W W':World} {L':List SVt} {L:List Stp} (h:StB W L' L) (hb:Below W.heap.size W W'):StB W' L' L :=
 ⟨h.1,fun i x s hx hs=>by obtain ⟨a,b,c,d⟩:=h.2 i x s hx hs;exact ⟨a,b,c.below hb,d⟩⟩
theorem StB.push {wd w3:World} {L':List SVt} {L:List Stp} {B e n:Nat} {r:Value} {xs:List Value} (h:StB wd L' L) (hrow:wd.ownsRow B e 3 r n xs) (hte:54≠e) (es:List Ed) (h2:es.length≤2) (a b:Int) (T:Obj)
 (hg:((wd.alloc (.cells (recV edV es).toArray 54)).alloc T).grownBy w3 r.ownBlock):StB w3 (L'++[(a,b,.slice (some ⟨wd.heap.size,0,none⟩) es.length es.length)]) (L++[(a,b,es)]):=by
 have hb:Below wd.heap.size wd ((wd.alloc (.cells (recV edV es).toArray 54)).alloc T):=((Below.refl _ wd).alloc (Nat.le_refl _) _).alloc (by simp) _
 have hr2:=(hrow.alloc (.cells (recV edV es).toArray 54)).alloc T
 refine ⟨by simp [h.1],fun i x s hx hs=>?_⟩
 rcases Nat.lt_or_ge i L'.length with hi | hi
 ·rw [List.getElem?_append_left hi] at hx
  rw [List.getElem?_append_left (by rw [← h.1];exact hi)] at hs
  obtain ⟨p,q,c,d⟩:=h.2 i x s hx hs
  exact ⟨p,q,(c.below hb).kept hr2 hte hg,d⟩
 ·rw [List.getElem?_append_right hi] at hx
  rw [List.getElem?_append_right (by rw [← h.1];exact hi)] at hs
  rw [h.1] at hx
  rcases Nat.eq_zero_or_pos (i - L.length) with h0 | h0
  ·rw [h0] at hx hs
   simp only [List.getElem?_cons_zero,Option.some.injEq] at hx hs
   subst hx hs
   exact ⟨rfl,rfl,((EdB.new wd es).below ((Below.refl _ _).alloc (Nat.le_refl _) T)).kept hr2 hte hg,h2⟩
  ·rw [List.getElem?_eq_none (by simp;omega)] at hx
   cases hx
def sTo (level:Int) (l:List Ed) (k:Nat):List Stp:=(l.take k).flatMap (stepOf level l)
def sIn (l:List Ed) (e:Ed) (k:Nat):List Stp:=(l.take k).filterMap fun g=>if g.1=3∧g.2.1=e.2.2.1 then some (two2 e g) else none
theorem sTo_all (level:Int) (l:List Ed):sTo level l l.length=stepsL level l:=by unfold sTo stepsL;rw [List.take_length]
theorem sTo_next (level:Int) (l:List Ed) (k:Nat) (hk:k < l.length):sTo level l (k+1)=sTo level l k++stepOf level l l[k]:=by
 unfold sTo
 rw [List.take_succ_eq_append_getElem hk,List.flatMap_append]
 simp
theorem sIn_all (l:List Ed) (e:Ed):sIn l e l.length=l.filterMap fun g=>if g.1=3∧g.2.1=e.2.2.1 then some (two2 e g) else none:=by unfold sIn;rw [List.take_length]
theorem sIn_yes (l:List Ed) (e:Ed) (k:Nat) (hk:k < l.length) (h:l[k].1=3∧l[k].2.1=e.2.2.1):sIn l e (k+1)=sIn l e k++[two2 e l[k]]:=by
 unfold sIn
 rw [List.take_succ_eq_append_getElem hk,List.filterMap_append]
 congr 1
 simp [h]
theorem sIn_no (l:List Ed) (e:Ed) (k:Nat) (hk:k < l.length) (h:¬ (l[k].1=3∧l[k].2.1=e.2.2.1)):sIn l e (k+1)=sIn l e k:=by
 unfold sIn
 rw [List.take_succ_eq_append_getElem hk,List.filterMap_append]
 rw [show [l[k]].filterMap (fun g=>if g.1=3∧g.2.1=e.2.2.1 then some (two2 e g) else none)=[] by
  rw [List.filterMap_cons,if_neg h];rfl]
 simp
theorem stepOf_1 (l:List Ed) (e:Ed):stepOf 1 l e=[one1 e]:=by unfold stepOf;simp
theorem stepOf_2 (l:List Ed) (e:Ed) (h:e.1≠3):stepOf 2 l e=one1 e::l.filterMap fun g=>if g.1=3∧g.2.1=e.2.2.1 then some (two2 e g) else none:=by unfold stepOf;simp [h]
theorem stepOf_23 (l:List Ed) (e:Ed) (h:e.1=3):stepOf 2 l e=[]:=by unfold stepOf;simp [h]
theorem stepOf_o (level:Int) (l:List Ed) (e:Ed) (h1:level≠1) (h2:level≠2):stepOf level l e=[]:=by unfold stepOf;simp [h1,h2]
theorem recS_snoc (L:List SVt) (x:SVt):recV stV (L++[x])=recV stV L++[.int .i64 x.1,.int .i64 x.2.1,x.2.2]:=by rw [recV_append];rfl
theorem IsEds.at {w:World} {b off:Nat} {l:List Ed} {k:Nat} (hk:k < l.length) (h:∀ j u,(edV l[k])[j]?=some u→w.cell? ⟨b,off+k*5+j,none⟩=some u) :
 w.cell? ⟨b,off+k*5,none⟩=some (.int .i64 l[k].1)∧w.cell? ⟨b,off+k*5+1,none⟩=some (.int .i64 l[k].2.1)∧w.cell? ⟨b,off+k*5+2,none⟩=some (.int .i64 l[k].2.2.1)∧w.cell? ⟨b,off+k*5+3,none⟩=some (.int .i64 l[k].2.2.2.1)∧w.cell? ⟨b,off+k*5+4,none⟩=some (.int .i64 l[k].2.2.2.2) :=
 ⟨h 0 _ rfl,h 1 _ rfl,h 2 _ rfl,h 3 _ rfl,h 4 _ rfl⟩
theorem IsEds.reads {w:World} {v:Value} {l:List Ed} (hT:IsEds w v l):∃ a cap,v=.slice a l.length cap∧l.length≤cap∧cap≤9223372036854775807∧l.length≤140737488351232 ∧
 Hid (0 < l.length→∃ b off,a=some ⟨b,off,none⟩∧Hid (∀ j (hj:j < l.length),∀ V,Below w.heap.size w V→V.cell? ⟨b,off+j*5,none⟩=some (.int .i64 l[j].1)∧V.cell? ⟨b,off+j*5+1,none⟩=some (.int .i64 l[j].2.1)∧V.cell? ⟨b,off+j*5+2,none⟩=some (.int .i64 l[j].2.2.1)∧V.cell? ⟨b,off+j*5+3,none⟩=some (.int .i64 l[j].2.2.2.1)∧V.cell? ⟨b,off+j*5+4,none⟩=some (.int .i64 l[j].2.2.2.2))):=by
 obtain ⟨a,cap,rfl,h1,h2,h3,HC⟩:=hT.some_at
 refine ⟨a,cap,rfl,h1,h2,h3,?_⟩
 intro h0
 obtain ⟨b,off,rfl,hlt,_⟩:=HC.out 0 h0
 refine ⟨b,off,rfl,?_⟩
 intro j hj V hV
 obtain ⟨b',off',hbo,_,hc⟩:=HC.out j hj
 obtain ⟨rfl,rfl⟩:b=b'∧off=off':=by simpa using hbo
 obtain ⟨s0,s1,s2,s3,s4⟩:=IsEds.at hj hc
 exact ⟨(hV.cell (p:=⟨b,off+j*5,none⟩) hlt).trans s0,(hV.cell (p:=⟨b,off+j*5+1,none⟩) hlt).trans s1,(hV.cell (p:=⟨b,off+j*5+2,none⟩) hlt).trans s2,(hV.cell (p:=⟨b,off+j*5+3,none⟩) hlt).trans s3,(hV.cell (p:=⟨b,off+j*5+4,none⟩) hlt).trans s4⟩
theorem own_empty8 (w:World) (e k:Nat):(w.alloc (.cells #[] e)).ownsRow w.heap.size e k (.slice (some ⟨w.heap.size,0,none⟩) 0 0) 0 [] :=
 ⟨by simp,.inr ⟨w.heap.size,0,#[],rfl,Nat.le_refl _,SBox.new w e #[],Nat.le_refl _,by unfold maxLen;omega,by simp,by simp⟩⟩
theorem rec_src8 {α:Type} {sz:Nat} {enc:α→List Value} (hz:∀ x,(enc x).length=sz) (hs:0 < sz) {W:World} {b off:Nat} {L:List α} (h:∀ i (h:i < L.length) j u,(enc L[i])[j]?=some u→W.cell? ⟨b,off+i*sz+j,none⟩=some u):∀ j u,(recV enc L)[j]?=some u→W.cell? ((⟨b,off,none⟩:Addr).add j)=some u:=by
 intro j u hu
 have hj:j < L.length*sz:=by
  have:=(List.getElem?_eq_some_iff.1 hu).1
  rwa [recV_length hz] at this
 have hi:j / sz < L.length:=(Nat.div_lt_iff_lt_mul hs).2 hj
 have hm:j % sz < sz:=Nat.mod_lt _ hs
 have e:j / sz*sz+j % sz=j:=by rw [Nat.mul_comm];exact Nat.div_add_mod j sz
 have g:=recV_get hz L (j / sz) hi (j % sz) hm
 rw [e,hu] at g
 have:=h (j / sz) hi (j % sz) u g.symm
 rw [Nat.add_assoc,e] at this
 have ea:(⟨b,off,none⟩:Addr).add j=⟨b,off+j,none⟩:=by simp [Addr.add]
 rw [ea]
 exact this
theorem IsRec.src {α:Type} {sz:Nat} {enc:α→List Value} (hz:∀ x,(enc x).length=sz) (hs:0 < sz) {w W:World} {ad:Addr} {n c:Nat} {L:List α} (h:IsRec sz enc w (.slice (some ad) n c) L) (hb:Below w.heap.size w W):∀ j u,(recV enc L)[j]?=some u→W.cell? (ad.add j)=some u:=by
 by_cases h0:L=[]
 ·subst h0;intro j u hu;simp [recV] at hu
 ·obtain ⟨a,n',c',hv,h1,_,_,_,h6⟩:=h
  obtain ⟨rfl,rfl,rfl⟩:a=some ad∧n'=n∧c'=c:=by simpa [eq_comm] using hv
  rcases h6 with h6 | ⟨b,off,hb',hlt,hc⟩
  ·exact absurd (List.length_eq_zero_iff.1 (by omega)) h0
  ·obtain rfl:ad=⟨b,off,none⟩:=by simpa using hb'
   refine rec_src8 hz hs (fun i hi j u hu=>?_)
   exact (hb.cell (p:=⟨b,off+i*sz+j,none⟩) hlt).trans (hc i hi j u hu)
theorem own_slice9 {W:World} {B e k n:Nat} {v:Value} {xs:List Value} (h:W.ownsRow B e k v n xs):∃ g c,v=.slice g n c∧n≤c:=by
 rcases h.2 with ⟨rfl,rfl⟩ | ⟨g,cap,cur,rfl,_,_,hc,_⟩
 ·exact ⟨_,_,rfl,Nat.le_refl _⟩
 ·exact ⟨_,_,rfl,hc⟩
theorem sl_info:(Tryz.prog.info? 23).map (fun i=>(i.zero,i.size,i.bytes))=some (some (.slice none 0 0),1,24):=by kernel_rfl
theorem own_lit (w:World) (e k n:Nat) (xs:List Value) (hx:xs.length=n*k) (hs:n≤1000):(w.alloc (.cells xs.toArray e)).ownsRow w.heap.size e k (.slice (some ⟨w.heap.size,0,none⟩) n n) n xs :=
 ⟨hx,.inr ⟨w.heap.size,n,_,rfl,Nat.le_refl _,SBox.new w e _,Nat.le_refl _,by unfold maxLen;omega,by rw [List.size_toArray,hx],by rw [List.toList_toArray,List.take_of_length_le (by rw [hx];exact Nat.le_refl _)]⟩⟩
theorem apart_types {W:World} {B B' e e' k k' n n':Nat} {r v:Value} {xs ys:List Value} (hr:W.ownsRow B e k r n xs) (hv:W.ownsRow B' e' k' v n' ys) (hne:e≠e'):Apart11 r v:=by
 intro g h1 h2
 rcases hr.2 with ⟨rfl,_⟩ | ⟨g1,c1,u1,rfl,_,b1,_⟩
 ·simp [Value.ownBlock] at h2
 ·rcases hv.2 with ⟨rfl,_⟩ | ⟨g2,c2,u2,rfl,_,b2,_⟩
  ·simp [Value.ownBlock] at h1
  ·obtain rfl:g1=g:=by simpa [Value.ownBlock] using h2
   obtain rfl:g2=g1:=by simpa [Value.ownBlock] using h1
   rw [b1] at b2
   simp at b2
   exact hne b2.2
def WaysOk (w W:World) (l:List Stp) (to:Int) (Vs:List Value):Prop:=∀ (n:Nat) u,Vs[n]?=some u→∃ N:List Int,W.ownsRow w.heap.size 3 1 u N.length (recV intV N)∧N.length≤l.length+1∧∀ x,x∈N↔wayB l to n x=true
theorem WaysOk.below {w W W':World} {l:List Stp} {to:Int} {Vs:List Value} (h:WaysOk w W l to Vs) (hb:Below W.heap.size W W'):WaysOk w W' l to Vs:=fun n u hu=>by
 obtain ⟨N,h1,h2⟩:=h n u hu
 exact ⟨N,owns_below h1 hb,h2⟩
theorem WaysOk.grown {w W W':World} {l:List Stp} {to:Int} {Vs:List Value} {B k n:Nat} {r:Value} {xs:List Value} (h:WaysOk w W l to Vs) (hr:W.ownsRow B 23 k r n xs) (hne:23≠3) (hg:W.grownBy W' r.ownBlock):WaysOk w W' l to Vs:=fun j u hu=>by
 obtain ⟨N,h1,h2⟩:=h j u hu
 exact ⟨N,apart11_kept h1 hg (apart_types hr h1 hne),h2⟩
theorem WaysOk.push {w W:World} {l:List Stp} {to:Int} {Vs:List Value} (h:WaysOk w W l to Vs) (u:Value) (N:List Int) (h1:W.ownsRow w.heap.size 3 1 u N.length (recV intV N)) (h2:N.length≤l.length+1) (h3:∀ x,x∈N↔wayB l to Vs.length x=true):WaysOk w W l to (Vs++[u]):=fun n u' hu=>by
 rcases Nat.lt_or_ge n Vs.length with hn | hn
 ·rw [List.getElem?_append_left hn] at hu
  exact h n u' hu
 ·rw [List.getElem?_append_right hn] at hu
  rcases Nat.eq_zero_or_pos (n - Vs.length) with h0 | h0
  ·rw [h0] at hu
   simp only [List.getElem?_cons_zero,Option.some.injEq] at hu
   subst hu
   obtain rfl:n=Vs.length:=by omega
   exact ⟨N,h1,h2,h3⟩
  ·rw [List.getElem?_eq_none (by simp;omega)] at hu
   cases hu
def nextP (l:List Stp) (to:Int) (n z:Nat) (x:Int):Prop:=∃ j,∃ h:j < l.length,j < z∧l[j].1=x∧wayB l to n l[j].2.1=true
theorem nextP_all (l:List Stp) (to:Int) (n:Nat) (x:Int):nextP l to n l.length x↔wayB l to (n+1) x=true:=by
 rw [wayB,List.any_eq_true]
 constructor
 ·rintro ⟨j,hj,_,h1,h2⟩
  exact ⟨l[j],List.getElem_mem hj,by simp [h1,h2]⟩
 ·rintro ⟨s,hs,h⟩
  obtain ⟨j,hj,rfl⟩:=List.getElem_of_mem hs
  rw [Bool.and_eq_true,decide_eq_true_eq] at h
  exact ⟨j,hj,hj,h.1,h.2⟩
theorem nextP_no (l:List Stp) (to:Int) (n z:Nat) (x:Int) (hz:z < l.length) (h:wayB l to n l[z].2.1=false):nextP l to n (z+1) x↔nextP l to n z x:=by
 constructor
 ·rintro ⟨j,hj,h0,h1,h2⟩
  rcases Nat.lt_or_ge j z with h' | h'
  ·exact ⟨j,hj,h',h1,h2⟩
  ·obtain rfl:j=z:=by omega
   rw [h] at h2;cases h2
 ·rintro ⟨j,hj,h0,h1,h2⟩
  exact ⟨j,hj,by omega,h1,h2⟩
theorem nextP_yes (l:List Stp) (to:Int) (n z:Nat) (x:Int) (hz:z < l.length) (h:wayB l to n l[z].2.1=true):nextP l to n (z+1) x↔x=l[z].1∨nextP l to n z x:=by
 constructor
 ·rintro ⟨j,hj,h0,h1,h2⟩
  rcases Nat.lt_or_ge j z with h' | h'
  ·exact .inr ⟨j,hj,h',h1,h2⟩
  ·obtain rfl:j=z:=by omega
   exact .inl h1.symm
 ·rintro (rfl | ⟨j,hj,h0,h1,h2⟩)
  ·exact ⟨z,hz,by omega,rfl,h⟩
  ·exact ⟨j,hj,by omega,h1,h2⟩
def WaysRes (w:World) (l:List Stp) (to:Int) (many:Nat) (e:Ending) (w':World):Prop:=∃ v Vs,e=.returned v∧Below w.heap.size w w'∧Vs.length=many+1∧w'.ownsRow w.heap.size 23 1 v (many+1) Vs∧WaysOk w w' l to Vs
end Go.Proofs.YtiihegldhnlleaaGreat
namespace Go.Proofs.YtiihegldhnlleaaGreat
set_option maxRecDepth 100000
open Go.RowKit
set_option linter.unusedVariables false
section
variable {α:Type}
theorem ringAt_none (l:List (Sp α)) (n:Nat) (h:∀ j (hj:j < (startsL l).length),wayB l (startsL l)[j] n (startsL l)[j]=false):ringAt l n=none:=by
 unfold ringAt
 rw [List.find?_eq_none]
 intro s hs
 obtain ⟨j,hj,rfl⟩:=List.getElem_of_mem hs
 rw [h j hj];decide
theorem ringAt_some (l:List (Sp α)) (n k:Nat) (hk:k < (startsL l).length) (h:∀ j (hj:j < (startsL l).length),j < k→wayB l (startsL l)[j] n (startsL l)[j]=false) (hy:wayB l (startsL l)[k] n (startsL l)[k]=true):ringAt l n=some (startsL l)[k]:=by
 unfold ringAt
 rw [List.find?_eq_some_iff_getElem]
 refine ⟨hy,k,hk,rfl,fun j hj=>?_⟩
 rw [h j (by omega) hj];rfl
theorem ringL_none (l:List (Sp α)) (h:∀ j,1≤j→j≤(startsL l).length→ringAt l j=none):ringL l=none:=by
 have:ringN l=none:=by
  unfold ringN
  rw [fi_none]
  intro i hi
  rw [h (i+1) (by omega) (by omega)];rfl
 unfold ringL
 rw [this]
theorem ringL_some (l:List (Sp α)) (n:Nat) (s:Int) (hn:n < (startsL l).length) (h:∀ j,1≤j→j < n+1→ringAt l j=none) (hs:ringAt l (n+1)=some s):ringL l=some (ringPath l s (n+1) s):=by
 have:ringN l=some n:=by
  unfold ringN
  rw [fi_some]
  refine ⟨hn,by rw [hs];rfl,fun j hj=>?_⟩
  rw [h (j+1) (by omega) (by omega)];rfl
 unfold ringL
 rw [this]
 simp only
 rw [hs]
theorem path_next (l:List (Sp α)) (to:Int) (q:Nat) (a:Int) (i:Nat) (hi:i < l.length) (h1:l[i].1=a) (h2:wayB l to q l[i].2.1=true) (h3:∀ j (hj:j < l.length),j < i→¬ (l[j].1=a∧wayB l to q l[j].2.1=true)):ringPath l to (q+1) a=l[i]::ringPath l to q l[i].2.1:=by
 rw [ringPath]
 have:(l.find? fun s=>decide (s.1=a)&&wayB l to q s.2.1)=some l[i]:=by
  rw [List.find?_eq_some_iff_getElem]
  refine ⟨by simp [h1,h2],i,hi,rfl,fun j hj=>?_⟩
  have:=h3 j (by omega) hj
  by_cases e:l[j].1=a
  ·cases hw:wayB l to q l[j].2.1 with
   | true=>exact absurd ⟨e,hw⟩ this
   | false=>simp
  ·simp [e]
 rw [this]
theorem way_has (l:List (Sp α)) (to:Int) (q:Nat) (a:Int) (h:wayB l to (q+1) a=true):∃ i,∃ hi:i < l.length,l[i].1=a∧wayB l to q l[i].2.1=true:=by
 rw [wayB,List.any_eq_true] at h
 obtain ⟨s,hs,h⟩:=h
 obtain ⟨i,hi,rfl⟩:=List.getElem_of_mem hs
 rw [Bool.and_eq_true,decide_eq_true_eq] at h
 exact ⟨i,hi,h.1,h.2⟩
end
def PathS (l:List Stp) (s a:Int) (q:Nat) (P:List Stp) (k:Nat) (b:Bool) (i:Nat) (a':Int) (Q:List Stp) (kk:Nat):Prop :=
 (b=false∧a'=a∧Q=P∧kk=k∧∀ j (hj:j < l.length),j < i→¬ (l[j].1=a∧wayB l s q l[j].2.1=true))∨(b=true∧kk=k+1∧wayB l s q a'=true∧P++ringPath l s (q+1) a=Q++ringPath l s q a')
def RingRes (t:TypeId) (w:World) (r:Option (List Stp)) (e:Ending) (w':World):Prop:=∃ v L',e=.returned (.tuple #[v,.bool r.isSome])∧Below w.heap.size w w'∧w'.ownsRow w.heap.size t 3 v L'.length (recV stV L')∧StOf w' L' (r.getD [])
theorem StOf.nil (W:World):StOf W [] []:=⟨rfl,fun i x s h=>by simp at h⟩
theorem StOf.push {W:World} {L':List SVt} {L:List Stp} (h:StOf W L' L) (a b:Int) (u:Value) (E:List Ed) (hE:IsEds W u E):StOf W (L'++[(a,b,u)]) (L++[(a,b,E)]):=by
 refine ⟨by simp [h.1],fun i x s hx hs=>?_⟩
 rcases Nat.lt_or_ge i L'.length with hi | hi
 ·rw [List.getElem?_append_left hi] at hx
  rw [List.getElem?_append_left (by rw [← h.1];exact hi)] at hs
  exact h.2 i x s hx hs
 ·rw [List.getElem?_append_right hi] at hx
  rw [List.getElem?_append_right (by rw [← h.1];exact hi)] at hs
  rw [h.1] at hx
  rcases Nat.eq_zero_or_pos (i - L.length) with h0 | h0
  ·rw [h0] at hx hs
   simp only [List.getElem?_cons_zero,Option.some.injEq] at hx hs
   subst hx hs
   exact ⟨rfl,rfl,hE⟩
  ·rw [List.getElem?_eq_none (by simp;omega)] at hx
   cases hx
end Go.Proofs.YtiihegldhnlleaaGreat
namespace Go.Proofs.YtiihegldhnlleaaGreat
set_option maxRecDepth 100000
set_option linter.unusedVariables false
def noWalk {α:Type} (l:List (Sp α)):Prop:=∀ n a,1≤n→¬ Walk l n a a
def goodL (h:List Ev) (level:Int):Prop:=clean h∧noWalk (stepsL level (edgesL h))
theorem order_iff {α:Type} (l:List (Sp α)) (nodes:List Int) (hall:∀ s∈l,s.1∈nodes∧s.2.1∈nodes):(∃ o,orderL nodes l=some o)↔noWalk l:=by
 constructor
 ·rintro ⟨o,ho⟩ n a hn hw
  have:=order_no_walk l nodes o ho hall n a a hn hw
  omega
 ·intro hno
  cases ho:orderL nodes l with
  | some o=>exact ⟨o,rfl⟩
  | none =>
    exfalso
    obtain ⟨core,h1,h2⟩:=orderF_none l _ _ (Nat.le_refl _) ho
    obtain ⟨r,hr⟩:=ring_of_core l core h1 h2
    obtain ⟨c1,c2,_⟩:=ring_some l r hr
    obtain ⟨a,h3,h4⟩:=closed_walk c1 c2
    exact hno _ a h3 h4
theorem ring_iff {α:Type} (l:List (Sp α)):ringL l=none↔noWalk l:=by
 constructor
 ·intro hr n a hn hw
  obtain ⟨r,hr',_⟩:=ring_of_walk l n a hn hw
  rw [hr] at hr';cases hr'
 ·intro hno
  cases hr:ringL l with
  | none=>rfl
  | some r =>
    exfalso
    obtain ⟨c1,c2,_⟩:=ring_some l r hr
    obtain ⟨a,h3,h4⟩:=closed_walk c1 c2
    exact hno _ a h3 h4
theorem snap_serial (l:List Ed) (h:noWalk (stepsL 1 l)):noWalk (stepsL 2 l):=by
 have one:∀ s∈stepsL 2 l,∃ m,1≤m∧Walk (stepsL 1 l) m s.1 s.2.1:=fun s hs=>by
  rcases steps_cases 2 l s hs with ⟨e,he,_,rfl⟩ | ⟨_,e,he,g,hg,_,_,hm,rfl⟩
  ·exact ⟨1,Nat.le_refl _,.cons (one1 e) 0 _ (steps_one 1 l e he (.inl rfl)) (.nil _)⟩
  ·refine ⟨2,by omega,.cons (one1 e) 1 _ (steps_one 1 l e he (.inl rfl)) ?_⟩
   show Walk (stepsL 1 l) 1 e.2.2.1 g.2.2.1
   rw [← hm]
   exact .cons (one1 g) 0 _ (steps_one 1 l g hg (.inl rfl)) (.nil _)
 have all:∀ n a b,Walk (stepsL 2 l) n a b→∃ m,n≤m∧Walk (stepsL 1 l) m a b:=by
  intro n
  induction n with
  | zero=>intro a b hw;obtain rfl:a=b:=hw;exact ⟨0,Nat.le_refl _,.nil _⟩
  | succ n ih =>
    intro a b hw
    obtain ⟨s,hs,hw,rfl⟩:=hw
    obtain ⟨m1,h1,w1⟩:=one s hs
    obtain ⟨m2,h2,w2⟩:=ih _ _ hw
    exact ⟨m1+m2,by omega,w1.append w2⟩
 intro n a hn hw
 obtain ⟨m,hm,hw'⟩:=all n a a hw
 exact h m a (by omega) hw'
def flatL (r:List Stp):List Ed:=r.flatMap fun s=>s.2.2
def chainG (level:Int):List Ed→Int→Int→Prop
 | [],a,b=>a=b
 | [e],a,b=>e.2.1=a∧e.2.2.1=b
 | e::e'::r,a,b=>e.2.1=a∧relE level e e'∧chainG level (e'::r) e.2.2.1 b
theorem chainG_R (level:Int):∀ (l:List Ed) (a b:Int) (f:Ed),chainG level l a b→f.2.1=b→¬ (level=2∧f.1=3)→chainR level l f
 | [],_,_,_,_,_,_=>trivial
 | [e],a,b,f,h,hf,h3=>⟨h.2.trans hf.symm,fun hx=>h3 ⟨hx.1,hx.2.2⟩⟩
 | e::e'::r,a,b,f,h,hf,h3=>⟨h.2.1,chainG_R level (e'::r) _ b f h.2.2 hf h3⟩
theorem flat_chain (level:Int) (l:List Ed):∀ (r:List Stp) (a b:Int),(∀ s∈r,s∈stepsL level l)→chainB r a b→chainG level (flatL r) a b∧(∀ e∈flatL r,e∈l)∧(r≠[]→∃ e t,flatL r=e::t∧e.2.1=a∧¬ (level=2∧e.1=3))
 | [],a,b,_,h=>⟨h,fun e he=>(by cases he),fun hn=>absurd rfl hn⟩
 | s::r,a,b,hs,h=>by
   obtain ⟨i1,i2,i3⟩:=flat_chain level l r s.2.1 b (fun x hx=>hs x (List.mem_cons_of_mem _ hx)) h.2
   have hfl:flatL (s::r)=s.2.2++flatL r:=by unfold flatL;rw [List.flatMap_cons]
   have hsa:s.1=a:=h.1
   have next:∀ e:Ed,e.2.2.1=s.2.1→chainG level (e::flatL r) e.2.1 b:=fun e he=>by
    cases hr:flatL r with
    | nil =>
      rw [hr] at i1
      exact ⟨rfl,he.trans i1⟩
    | cons f t =>
      have hrn:r≠[]:=fun hx=>by rw [hx] at hr;cases hr
      obtain ⟨e0,t0,h1,h2,h3⟩:=i3 hrn
      rw [hr] at h1 i1
      cases h1
      exact ⟨rfl,⟨he.trans h2.symm,fun hx=>h3 ⟨hx.1,hx.2.2⟩⟩,by rw [he];exact i1⟩
   rcases steps_cases level l s (hs s (List.mem_cons_self ..)) with ⟨e,he,hlev,rfl⟩ | ⟨rfl,e,he,g,hg,e3,g3,hm,rfl⟩
   ·rw [hfl]
    have hn:=next e rfl
    have ha:e.2.1=a:=hsa
    refine ⟨by rw [← ha];exact hn,fun x hx=>?_,fun _=>⟨e,flatL r,rfl,ha,fun hx=>?_⟩⟩
    ·rcases List.mem_append.1 hx with hx | hx
     ·rw [List.mem_singleton.1 hx];exact he
     ·exact i2 x hx
    ·rcases hlev with hl | hl
     ·rw [hl] at hx;exact absurd hx.1 (by decide)
     ·exact hl.2 hx.2
   ·rw [hfl]
    have hn:=next g rfl
    have ha:e.2.1=a:=hsa
    refine ⟨?_,fun x hx=>?_,fun _=>⟨e,g::flatL r,rfl,ha,fun hx=>e3 hx.2⟩⟩
    ·show chainG 2 (e::g::flatL r) a b
     refine ⟨ha,⟨hm.symm,fun hx=>e3 hx.2.1⟩,?_⟩
     rw [← hm];exact hn
    ·rcases List.mem_append.1 hx with hx | hx
     ·rcases List.mem_cons.1 hx with rfl | hx
      ·exact he
      ·rw [List.mem_singleton.1 hx];exact hg
     ·exact i2 x hx
theorem flat_ring (level:Int) (l:List Ed) (r:List Stp) (h:ringL (stepsL level l)=some r):cyc level (flatL r)∧∀ e∈flatL r,e∈l:=by
 obtain ⟨⟨s,r',hr,hc⟩,h2,_⟩:=ring_some _ r h
 obtain ⟨i1,i2,i3⟩:=flat_chain level l r s.1 s.1 h2 hc
 refine ⟨?_,i2⟩
 obtain ⟨e,t,h1,h3,h4⟩:=i3 (by rw [hr];simp)
 rw [h1] at i1 ⊢
 exact chainG_R level (e::t) s.1 s.1 e i1 h3 h4
def stepAB (s:List Stp) (a b:Nat):Prop:=∃ x∈s,x.1=(a:Int)∧x.2.1=(b:Int)
def pathK (s:List Stp):Nat→Nat→Nat→Prop
 | 0,a,b=>stepAB s a b
 | k+1,a,b=>pathK s k a b∨(pathK s k a k∧pathK s k k b)
theorem pathK_trans (s:List Stp):∀ (k a c b:Nat),c < k→pathK s k a c→pathK s k c b→pathK s k a b
 | 0,_,_,_,hc,_,_=>absurd hc (by omega)
 | k+1,a,c,b,hc,h1,h2=>by
   rcases Nat.lt_or_ge c k with hck | hck
   ·rcases h1 with h1 | ⟨h1,h1'⟩
    ·rcases h2 with h2 | ⟨h2,h2'⟩
     ·exact .inl (pathK_trans s k a c b hck h1 h2)
     ·exact .inr ⟨pathK_trans s k a c k hck h1 h2,h2'⟩
    ·rcases h2 with h2 | ⟨h2,h2'⟩
     ·exact .inr ⟨h1,pathK_trans s k k c b hck h1' h2⟩
     ·exact .inr ⟨h1,h2'⟩
   ·obtain rfl:c=k:=by omega
    have g1:pathK s c a c:=h1.elim id And.left
    have g2:pathK s c c b:=h2.elim id And.right
    exact .inr ⟨g1,g2⟩
theorem pathK_step (s:List Stp) {a b:Nat} (h:stepAB s a b):∀ k,pathK s k a b
 | 0=>h
 | k+1=>.inl (pathK_step s h k)
def low64 (s:List Stp):Prop:=∀ x∈s,(0≤x.1∧x.1 < 64)∧0≤x.2.1∧x.2.1 < 64
theorem walk_pathK (s:List Stp) (hl:low64 s):∀ (n:Nat) (a b:Nat),Walk s (n+1) (a:Int) (b:Int)→pathK s 64 a b
 | 0,a,b,h=>by
   obtain ⟨x,hx,hw,e⟩:=h
   exact pathK_step s ⟨x,hx,e.symm,hw⟩ 64
 | n+1,a,b,h=>by
   obtain ⟨x,hx,hw,e⟩:=h
   obtain ⟨_,h1,h2⟩:=hl x hx
   obtain ⟨c,hc⟩:∃ c:Nat,x.2.1=(c:Int):=⟨x.2.1.toNat,by omega⟩
   rw [hc] at hw
   exact pathK_trans s 64 a c b (by omega) (pathK_step s ⟨x,hx,e.symm,hc⟩ 64) (walk_pathK s hl n c b hw)
def rd (A:List Bool) (a b:Nat):Bool:=A.getD (a*64+b) false
theorem rd_set (A:List Bool) (hA:A.length=4096) (a b x y:Nat) (v:Bool) (ha:a < 64) (hb:b < 64) (hx:x < 64) (hy:y < 64):rd (A.set (a*64+b) v) x y=if x=a∧y=b then v else rd A x y:=by
 unfold rd
 rw [List.getD_eq_getElem?_getD,List.getElem?_set,List.getD_eq_getElem?_getD]
 by_cases e:x=a∧y=b
 ·obtain ⟨rfl,rfl⟩:=e
  rw [if_pos rfl,if_pos (by omega),if_pos ⟨rfl,rfl⟩]
  rfl
 ·rw [if_neg e,if_neg (by omega)]
def soundW (s:List Stp) (A:List Bool):Prop:=∀ a b,a < 64→b < 64→rd A a b=true→∃ n,Walk s (n+1) (a:Int) (b:Int)
structure InvW (s:List Stp) (A:List Bool) (k a b:Nat):Prop where
 len:A.length=4096
 sound:soundW s A
 k1:∀ x y,x < 64→y < 64→pathK s k x y→rd A x y=true
 k2:∀ x y,x < a→x < 64→y < 64→pathK s (k+1) x y→rd A x y=true
 k3:∀ y,y < b→y < 64→pathK s (k+1) a y→rd A a y=true
theorem InvW.step {s:List Stp} {A:List Bool} {k a b:Nat} (h:InvW s A k a b) (hk:k < 64) (ha:a < 64) (hb:b < 64):InvW s (A.set (a*64+b) (rd A a b || rd A a k&&rd A k b)) k a (b+1):=by
 have mono:∀ x y,x < 64→y < 64→rd A x y=true→rd (A.set (a*64+b) (rd A a b || rd A a k&&rd A k b)) x y=true:=fun x y hx hy hr=>by
  rw [rd_set A h.len a b x y _ ha hb hx hy]
  by_cases e:x=a∧y=b
  ·rw [if_pos e]
   obtain ⟨rfl,rfl⟩:=e
   rw [hr]
   rfl
  ·rw [if_neg e];exact hr
 refine ⟨by rw [List.length_set];exact h.len,fun x y hx hy hr=>?_,fun x y hx hy hp=>mono x y hx hy (h.k1 x y hx hy hp),fun x y hxa hx hy hp=>mono x y hx hy (h.k2 x y hxa hx hy hp),fun y hyb hy hp=>?_⟩
 ·rw [rd_set A h.len a b x y _ ha hb hx hy] at hr
  by_cases e:x=a∧y=b
  ·rw [if_pos e] at hr
   obtain ⟨rfl,rfl⟩:=e
   rw [Bool.or_eq_true,Bool.and_eq_true] at hr
   rcases hr with hr | ⟨r1,r2⟩
   ·exact h.sound x y hx hy hr
   ·obtain ⟨n,hn⟩:=h.sound x k hx hk r1
    obtain ⟨m,hm⟩:=h.sound k y hk hy r2
    exact ⟨n+1+m,by have:=hn.append hm;rw [show n+1+(m+1)=n+1+m+1 by omega] at this;exact this⟩
  ·rw [if_neg e] at hr
   exact h.sound x y hx hy hr
 ·rcases Nat.lt_succ_iff_lt_or_eq.1 hyb with hlt | rfl
  ·exact mono a y ha hy (h.k3 y hlt hy hp)
  ·rw [rd_set A h.len a y a y _ ha hb ha hy,if_pos ⟨rfl,rfl⟩,Bool.or_eq_true,Bool.and_eq_true]
   rcases hp with hp | ⟨p1,p2⟩
   ·exact .inl (h.k1 a y ha hy hp)
   ·exact .inr ⟨h.k1 a k ha hk p1,h.k1 k y hk hy p2⟩
theorem InvW.row {s:List Stp} {A:List Bool} {k a:Nat} (h:InvW s A k a 64):InvW s A k (a+1) 0 :=
 ⟨h.len,h.sound,h.k1,fun x y hxa hx hy hp=>by
  rcases Nat.lt_succ_iff_lt_or_eq.1 hxa with hlt | rfl
  ·exact h.k2 x y hlt hx hy hp
  ·exact h.k3 y hy hy hp,fun y hy=>absurd hy (by omega)⟩
theorem InvW.round {s:List Stp} {A:List Bool} {k:Nat} (h:InvW s A k 64 0):InvW s A (k+1) 0 0 :=
 ⟨h.len,h.sound,fun x y hx hy hp=>h.k2 x y hx hx hy hp,fun x y hx=>absurd hx (by omega),fun y hy=>absurd hy (by omega)⟩
structure LayW (s:List Stp) (A:List Bool) (i:Nat):Prop where
 len:A.length=4096
 sound:soundW s A
 has:∀ x∈s.take i,∀ a b:Nat,x.1=(a:Int)→x.2.1=(b:Int)→rd A a b=true
theorem LayW.start (s:List Stp):LayW s (List.replicate 4096 false) 0 :=
 ⟨by simp,fun a b ha hb hr=>by
  unfold rd at hr
  rw [List.getD_eq_getElem?_getD,List.getElem?_replicate] at hr
  split at hr<;>simp at hr,fun x hx=>by simp at hx⟩
theorem LayW.next {s:List Stp} {A:List Bool} {i:Nat} (h:LayW s A i) (hl:low64 s) (hi:i < s.length) (a b:Nat) (ea:s[i].1=(a:Int)) (eb:s[i].2.1=(b:Int)):LayW s (A.set (a*64+b) true) (i+1):=by
 obtain ⟨l1,l2⟩:=hl s[i] (List.getElem_mem hi)
 have ha:a < 64:=by omega
 have hb:b < 64:=by omega
 refine ⟨by rw [List.length_set];exact h.len,fun x y hx hy hr=>?_,fun x hx p q ep eq=>?_⟩
 ·rw [rd_set A h.len a b x y _ ha hb hx hy] at hr
  by_cases e:x=a∧y=b
  ·obtain ⟨rfl,rfl⟩:=e
   exact ⟨0,s[i],List.getElem_mem hi,eb,ea.symm⟩
  ·rw [if_neg e] at hr
   exact h.sound x y hx hy hr
 ·have hxs:x∈s:=List.mem_of_mem_take hx
  obtain ⟨m1,m2⟩:=hl x hxs
  rw [rd_set A h.len a b p q _ ha hb (by omega) (by omega)]
  by_cases e:p=a∧q=b
  ·rw [if_pos e]
  ·rw [if_neg e]
   rw [List.take_succ_eq_append_getElem hi] at hx
   rcases List.mem_append.1 hx with hx | hx
   ·exact h.has x hx p q ep eq
   ·simp at hx
    subst hx
    exact absurd ⟨by omega,by omega⟩ e
theorem LayW.done {s:List Stp} {A:List Bool} (h:LayW s A s.length):InvW s A 0 0 0 :=
 ⟨h.len,h.sound,fun x y hx hy ⟨z,hz,e1,e2⟩=>h.has z (by rw [List.take_length];exact hz) x y e1 e2,fun x y hx=>absurd hx (by omega),fun y hy=>absurd hy (by omega)⟩
theorem InvW.good {s:List Stp} {A:List Bool} (h:InvW s A 64 0 0) (hl:low64 s):(∀ a,a < 64→rd A a a=false)↔noWalk s:=by
 constructor
 ·intro hd n x hn hw
  obtain ⟨m,rfl⟩:∃ m,n=m+1:=⟨n - 1,by omega⟩
  obtain ⟨z,hz,_,e⟩:=hw
  obtain ⟨l1,_⟩:=hl z hz
  obtain ⟨a,ea⟩:∃ a:Nat,x=(a:Int):=⟨x.toNat,by omega⟩
  subst ea
  have hp:=walk_pathK s hl m a a ⟨z,hz,by assumption,e⟩
  have hr:=h.k1 a a (by omega) (by omega) hp
  rw [hd a (by omega)] at hr
  cases hr
 ·intro hn a ha
  cases hr:rd A a a with
  | false=>rfl
  | true =>
    obtain ⟨n,hw⟩:=h.sound a a ha ha hr
    exact absurd hw (hn (n+1) a (by omega))
def ndOf (h:List Ev) (j:Nat):Option Int:=if commL h ((j:Int) - 1)=none then none else some ((j:Int) - 1)
def ndL (h:List Ev) (k:Nat):List Int:=(List.range k).filterMap (ndOf h)
def nodeL (h:List Ev):List Int:=ndL h 301
theorem nd_next (h:List Ev) (k:Nat):ndL h (k+1)=ndL h k++(ndOf h k).toList:=by
 unfold ndL
 rw [List.range_succ,List.filterMap_append]
 cases hl:ndOf h k with
 | none=>simp [hl]
 | some x=>simp [hl]
theorem nd_len (h:List Ev) (k:Nat):(ndL h k).length≤k:=by
 unfold ndL
 have:=List.length_filterMap_le (ndOf h) (List.range k)
 rwa [List.length_range] at this
theorem comm_has (h:List Ev) (t:Int) (hf:fstL h t h.length=none):commL h t=none:=by
 cases hc:commL h t with
 | none=>rfl
 | some e =>
   obtain ⟨he,_⟩:=(commL_some h t e).1 hc
   obtain ⟨e1,e2,_⟩:=(endL_some h t _ e).1 he
   exact absurd e2.1 ((fstL_none h t _).1 hf e e1)
theorem nd_mem (h:List Ev) (k:Nat) (t:Int):t∈ndL h k↔(-1≤t∧t < (k:Int) - 1)∧commL h t≠none:=by
 unfold ndL
 rw [List.mem_filterMap]
 constructor
 ·rintro ⟨j,hj,hh⟩
  have hjk:=List.mem_range.1 hj
  unfold ndOf at hh
  by_cases hc:commL h ((j:Int) - 1)=none
  ·rw [if_pos hc] at hh;cases hh
  ·rw [if_neg hc] at hh
   cases hh
   exact ⟨by omega,hc⟩
 ·rintro ⟨h1,h2⟩
  refine ⟨(t+1).toNat,List.mem_range.2 (by omega),?_⟩
  have e:(((t+1).toNat:Nat):Int) - 1=t:=by omega
  unfold ndOf
  rw [e,if_neg h2]
def cmO (y:Lf):Option Int:=if y.2.2.2=true then some y.1 else none
def cmF (L:List Lf):List Int:=L.filterMap cmO
theorem cmF_yes (L:List Lf) (k:Nat) (hk:k < L.length) (h:L[k].2.2.2=true):cmF (L.take (k+1))=cmF (L.take k)++[L[k].1]:=by
 unfold cmF
 rw [List.take_succ_eq_append_getElem hk,List.filterMap_append]
 congr 1
 simp [cmO,h]
theorem cmF_no (L:List Lf) (k:Nat) (hk:k < L.length) (h:L[k].2.2.2=false):cmF (L.take (k+1))=cmF (L.take k):=by
 unfold cmF
 rw [List.take_succ_eq_append_getElem hk,List.filterMap_append]
 rw [show [L[k]].filterMap cmO=[] by rw [List.filterMap_cons];simp [cmO,h]]
 simp
theorem cm_mem (h:List Ev) (t:Int):t∈cmF (livesL h)↔commL h t≠none:=by
 unfold cmF livesL
 rw [List.mem_filterMap]
 constructor
 ·rintro ⟨⟨t',f,e,b⟩,hy,hc⟩
  obtain ⟨i,hi,hh⟩:=List.mem_filterMap.1 hy
  by_cases h0:fstL h (ev h i).2.1 i=none
  ·rw [if_pos h0] at hh
   unfold cmO at hc
   simp only at hc
   cases b with
   | false=>simp at hc
   | true =>
     simp only [if_true,Option.some.injEq] at hc
     obtain ⟨e1,e2⟩:=find_comm h _ 0 f e t' hh
     rw [← hc,e1,e2]
     simp
  ·rw [if_neg h0] at hh;cases hh
 ·intro hc
  cases hq:commL h t with
  | none=>exact absurd hq hc
  | some e =>
    obtain ⟨f,hf⟩:=comm_find h t e hq
    cases hF:fstL h t h.length with
    | none=>exact absurd (comm_has h t hF) hc
    | some i =>
      obtain ⟨i1,i2,i3⟩:=(fstL_some h t _ i).1 hF
      refine ⟨(t,f,e,true),List.mem_filterMap.2 ⟨i,List.mem_range.2 i1,?_⟩,rfl⟩
      rw [i2,if_pos ((fstL_none h t i).2 i3),hf]
theorem cm_nodup (h:List Ev):(cmF (livesL h)).Nodup:=by
 unfold cmF livesL
 rw [List.filterMap_filterMap]
 refine List.Pairwise.filterMap (R:=fun a b:Nat=>a < b) _ ?_ List.pairwise_lt_range
 intro a b hab x hx y hy exy
 have key:∀ i z,(Option.bind (if fstL h (ev h i).2.1 i=none then findL h (ev h i).2.1 else none) cmO)=some z→fstL h (ev h i).2.1 i=none∧(ev h i).2.1=z:=by
  intro i z hz
  by_cases h0:fstL h (ev h i).2.1 i=none
  ·rw [if_pos h0] at hz
   refine ⟨h0,?_⟩
   cases hf:findL h (ev h i).2.1 with
   | none=>rw [hf] at hz;cases hz
   | some q =>
     obtain ⟨t',f,e,b⟩:=q
     rw [hf] at hz
     simp only [Option.bind_some,cmO] at hz
     cases b with
     | false=>simp at hz
     | true =>
       simp only [if_true,Option.some.injEq] at hz
       rw [← hz,(find_comm h _ 0 f e t' hf).1]
  ·rw [if_neg h0] at hz;cases hz
 obtain ⟨a1,a2⟩:=key a x hx
 obtain ⟨b1,b2⟩:=key b y hy
 exact (fstL_none h _ b).1 b1 a hab (by rw [a2,b2,exy])
theorem nd_sorted (h:List Ev) (k:Nat):(ndL h k).Pairwise (fun a b=>a < b):=by
 unfold ndL
 refine List.Pairwise.filterMap (R:=fun a b:Nat=>a < b) _ ?_ List.pairwise_lt_range
 intro a b hab x hx y hy
 unfold ndOf at hx hy
 by_cases h1:commL h ((a:Int) - 1)=none
 ·rw [if_pos h1] at hx;cases hx
 ·by_cases h2:commL h ((b:Int) - 1)=none
  ·rw [if_pos h2] at hy;cases hy
  ·rw [if_neg h1] at hx
   rw [if_neg h2] at hy
   cases hx
   cases hy
   omega
theorem node_sorted (h:List Ev) (hf:∀ x∈h,0≤x.2.1∧x.2.1≤99):((cmF (livesL h)).mergeSort fun x y=>decide (x≤y))=nodeL h:=by
 have nd:(nodeL h).Nodup:=List.Pairwise.imp (fun {a b} hlt e=>by omega) (nd_sorted h 301)
 have pm:(cmF (livesL h)).Perm (nodeL h):=by
  refine (List.perm_ext_iff_of_nodup (cm_nodup h) nd).2 fun t=>?_
  rw [cm_mem]
  unfold nodeL
  rw [nd_mem]
  constructor
  ·intro hc
   refine ⟨?_,hc⟩
   cases hF:fstL h t h.length with
   | none=>exact absurd (comm_has h t hF) hc
   | some i =>
     obtain ⟨i1,i2,i3⟩:=(fstL_some h t _ i).1 hF
     have:=hf h[i] (List.getElem_mem i1)
     rw [← ev_get h i i1,i2] at this
     omega
  ·exact fun hh=>hh.2
 refine List.Perm.eq_of_pairwise (le:=fun x y:Int=>x≤y) (fun a b _ _ h1 h2=>Int.le_antisymm h1 h2) ?_ ?_ ((List.mergeSort_perm _ _).trans pm)
 ·refine (List.pairwise_mergeSort (le:=fun x y:Int=>decide (x≤y)) (fun a b c h1 h2=>?_) (fun a b=>?_) (cmF (livesL h))).imp (fun {a b} hh=>by simpa using hh)
  ·rw [decide_eq_true_eq] at h1 h2 ⊢
   omega
  ·rw [Bool.or_eq_true,decide_eq_true_eq,decide_eq_true_eq]
   omega
 ·exact (nd_sorted h 301).imp (fun {a b} hh=>by omega)
abbrev Vd:=Int × Bool × List Int × (Int × Int × Int) × List Ed
def zV:Vd:=(0,false,[],(0,0,0),[])
def judgeL (h:List Ev) (level:Int):Vd × Int :=
 if level≠1∧level≠2 then (zV,1)
 else if (formedL h).2≠0 then (zV,((formedL h).2:Int))
 else match badsL h with
  | b::_=>((level,false,[],b,[]),0)
  | []=>match orderL (nodeL h) (stepsL level (edgesL h)) with
    | some o=>((level,true,o,(0,0,0),[]),0)
    | none=>((level,false,[],(0,0,0),flatL ((ringL (stepsL level (edgesL h))).getD [])),0)
theorem judge_arg (h:List Ev) (level:Int) (h1:level≠1) (h2:level≠2):judgeL h level=(zV,1):=by unfold judgeL;rw [if_pos ⟨h1,h2⟩]
theorem judge_form (h:List Ev) (level:Int) (hl:level=1∨level=2) (hf:(formedL h).2≠0):judgeL h level=(zV,((formedL h).2:Int)):=by unfold judgeL;rw [if_neg (by omega),if_pos hf]
theorem judge_bad (h:List Ev) (level:Int) (hl:level=1∨level=2) (hf:(formedL h).2=0) (b:Int × Int × Int) (r:List (Int × Int × Int)) (hb:badsL h=b::r):judgeL h level=((level,false,[],b,[]),0):=by
 unfold judgeL
 rw [if_neg (by omega),if_neg (fun e=>e hf),hb]
theorem judge_order (h:List Ev) (level:Int) (hl:level=1∨level=2) (hf:(formedL h).2=0) (hb:badsL h=[]) (o:List Int) (ho:orderL (nodeL h) (stepsL level (edgesL h))=some o):judgeL h level=((level,true,o,(0,0,0),[]),0):=by
 unfold judgeL
 rw [if_neg (by omega),if_neg (fun e=>e hf),hb]
 simp only
 rw [ho]
theorem judge_ring (h:List Ev) (level:Int) (hl:level=1∨level=2) (hf:(formedL h).2=0) (hb:badsL h=[]) (ho:orderL (nodeL h) (stepsL level (edgesL h))=none):judgeL h level=((level,false,[],(0,0,0),flatL ((ringL (stepsL level (edgesL h))).getD [])),0):=by
 unfold judgeL
 rw [if_neg (by omega),if_neg (fun e=>e hf),hb]
 simp only
 rw [ho]
theorem wf_low {h:List Ev} (hw:WF h) (i:Nat) (hi:i < h.length):0≤(ev h i).2.1∧(ev h i).2.1≤63:=by
 have:=wf_may hw hi
 unfold mayE at this
 omega
theorem step_ends (h:List Ev) (level:Int) (s:Stp) (hs:s∈stepsL level (edgesL h)):∃ e∈edgesL h,∃ g∈edgesL h,s.1=e.2.1∧s.2.1=g.2.2.1:=by
 rcases steps_cases level (edgesL h) s hs with ⟨e,he,_,rfl⟩ | ⟨_,e,he,g,hg,hh⟩
 ·exact ⟨e,he,e,he,rfl,rfl⟩
 ·obtain ⟨_,_,_,rfl⟩:=hh
  exact ⟨e,he,g,hg,rfl,rfl⟩
theorem steps_low {h:List Ev} (hw:WF h) (level:Int):low64 (stepsL level (edgesL h)):=by
 intro s hs
 obtain ⟨e,he,g,hg,e1,e2⟩:=step_ends h level s hs
 obtain ⟨_,_,i,j,_,_,_,_,_,hi,hj,_,t1,t2⟩:=edges_apart h e he
 obtain ⟨_,_,i',j',_,_,_,_,_,hi',hj',_,u1,u2⟩:=edges_apart h g hg
 have g1:=wf_low hw i hi
 have g2:=wf_low hw j' hj'
 unfold tx at t1 u2
 rw [e1,e2,← t1,← u2]
 omega
theorem steps_nodes {h:List Ev} (hw:WF h) (level:Int) (s:Stp) (hs:s∈stepsL level (edgesL h)):s.1∈nodeL h∧s.2.1∈nodeL h:=by
 obtain ⟨l1,l2⟩:=steps_low hw level s hs
 obtain ⟨e,he,g,hg,e1,e2⟩:=step_ends h level s hs
 obtain ⟨a,_,_,_,ca,_⟩:=edges_apart h e he
 obtain ⟨_,b,_,_,_,cb,_⟩:=edges_apart h g hg
 unfold nodeL
 rw [nd_mem,nd_mem]
 refine ⟨⟨by omega,?_⟩,⟨by omega,?_⟩⟩
 ·rw [e1,ca];simp
 ·rw [e2,cb];simp
theorem order_good {h:List Ev} (hw:WF h) (level:Int):(∃ o,orderL (nodeL h) (stepsL level (edgesL h))=some o)↔noWalk (stepsL level (edgesL h)) :=
 order_iff _ _ (fun s hs=>steps_nodes hw level s hs)
theorem judge_good {h:List Ev} (hw:WF h) (level:Int) (hl:level=1∨level=2):(judgeL h level).2=0∧(judgeL h level).1.1=level∧((judgeL h level).1.2.1=true↔goodL h level):=by
 have hf:=(formed_ok h).2 hw
 cases hb:badsL h with
 | cons b r =>
   rw [judge_bad h level hl hf b r hb]
   refine ⟨rfl,rfl,fun e=>(by cases e),fun hg=>?_⟩
   rw [(bads_nil h).2 hg.1] at hb
   cases hb
 | nil =>
   have hc:=(bads_nil h).1 hb
   cases ho:orderL (nodeL h) (stepsL level (edgesL h)) with
   | some o =>
     rw [judge_order h level hl hf hb o ho]
     exact ⟨rfl,rfl,fun _=>⟨hc,(order_good hw level).1 ⟨o,ho⟩⟩,fun _=>rfl⟩
   | none =>
     rw [judge_ring h level hl hf hb ho]
     refine ⟨rfl,rfl,fun e=>(by cases e),fun hg=>?_⟩
     obtain ⟨o,e⟩:=(order_good hw level).2 hg.2
     rw [ho] at e
     cases e
theorem judge_levels (h:List Ev):(judgeL h 1).2=(judgeL h 2).2∧((judgeL h 1).1.2.1=true→(judgeL h 2).1.2.1=true):=by
 by_cases hf:(formedL h).2=0
 ·have hw:=(formed_ok h).1 hf
  have g1:=judge_good hw 1 (.inl rfl)
  have g2:=judge_good hw 2 (.inr rfl)
  refine ⟨by rw [g1.1,g2.1],fun ha=>g2.2.2.2 ?_⟩
  have:=g1.2.2.1 ha
  exact ⟨this.1,snap_serial _ this.2⟩
 ·rw [judge_form h 1 (.inl rfl) hf,judge_form h 2 (.inr rfl) hf]
  exact ⟨rfl,fun e=>e⟩
theorem judge_nodes (h:List Ev) (level:Int) (ha:(judgeL h level).1.2.1=true):(judgeL h level).2=0∧(judgeL h level).1.2.2.1.length=(nodeL h).length∧(judgeL h level).1.2.2.1.Nodup∧∀ x,x∈(judgeL h level).1.2.2.1↔x∈nodeL h:=by
 by_cases hl:level=1∨level=2
 ·by_cases hf:(formedL h).2=0
  ·cases hb:badsL h with
   | cons b r=>rw [judge_bad h level hl hf b r hb] at ha;cases ha
   | nil =>
     cases ho:orderL (nodeL h) (stepsL level (edgesL h)) with
     | none=>rw [judge_ring h level hl hf hb ho] at ha;cases ha
     | some o =>
       rw [judge_order h level hl hf hb o ho]
       obtain ⟨h1,h2,_⟩:=orderF_some _ (nodeL h).length (nodeL h) o (Nat.le_refl _) ho
       refine ⟨rfl,?_,h1,h2⟩
       have nd:(nodeL h).Nodup:=List.Pairwise.imp (fun {a b} hlt e=>by omega) (nd_sorted h 301)
       exact ((List.perm_ext_iff_of_nodup h1 nd).2 h2).length_eq
  ·rw [judge_form h level hl hf] at ha;cases ha
 ·rw [judge_arg h level (by omega) (by omega)] at ha;cases ha
theorem flat_nonempty (level:Int) (l:List Ed) (r:List Stp) (h:ringL (stepsL level l)=some r):flatL r≠[]:=by
 have hc:=(flat_ring level l r h).1
 intro e
 rw [e] at hc
 exact hc
theorem judge_one (h:List Ev) (level:Int):((judgeL h level).2≠0∧(judgeL h level).1=zV)∨((judgeL h level).2=0 ∧
 (((judgeL h level).1.2.1=true∧(judgeL h level).1.2.2.2.1=(0,0,0)∧(judgeL h level).1.2.2.2.2=[]) ∨
  ((judgeL h level).1.2.1=false∧(judgeL h level).1.2.2.1=[]∧(judgeL h level).1.2.2.2.1.1≠0∧(judgeL h level).1.2.2.2.2=[]) ∨
  ((judgeL h level).1.2.1=false∧(judgeL h level).1.2.2.1=[]∧(judgeL h level).1.2.2.2.1=(0,0,0)∧(judgeL h level).1.2.2.2.2≠[]))):=by
 by_cases hl:level=1∨level=2
 ·by_cases hf:(formedL h).2=0
  ·right
   have hw:=(formed_ok h).1 hf
   cases hb:badsL h with
   | cons b r =>
     rw [judge_bad h level hl hf b r hb]
     refine ⟨rfl,.inr (.inl ⟨rfl,rfl,?_,rfl⟩)⟩
     have hm:b∈badsL h:=by rw [hb];exact List.mem_cons_self ..
     unfold badsL at hm
     obtain ⟨i,_,hi⟩:=List.mem_filterMap.1 hm
     by_cases h0:(atL h i).1=0
     ·rw [if_pos h0] at hi;cases hi
     ·rw [if_neg h0] at hi
      cases hi
      exact h0
   | nil =>
     cases ho:orderL (nodeL h) (stepsL level (edgesL h)) with
     | some o=>rw [judge_order h level hl hf hb o ho];exact ⟨rfl,.inl ⟨rfl,rfl,rfl⟩⟩
     | none =>
       rw [judge_ring h level hl hf hb ho]
       refine ⟨rfl,.inr (.inr ⟨rfl,rfl,rfl,?_⟩)⟩
       cases hr:ringL (stepsL level (edgesL h)) with
       | none =>
         obtain ⟨o,e⟩:=(order_good hw level).2 ((ring_iff _).1 hr)
         rw [ho] at e
         cases e
       | some r=>exact flat_nonempty level _ r hr
  ·left
   rw [judge_form h level hl hf]
   exact ⟨by simp only;omega,rfl⟩
 ·left
  rw [judge_arg h level (by omega) (by omega)]
  exact ⟨by simp,rfl⟩
theorem at_no (h:List Ev) (i:Nat) (hc:¬ countsL h i):atL h i=(0,0,0):=by
 unfold atL
 rw [if_pos]
 cases hb:countsB h i with
 | false=>rfl
 | true=>exact absurd ((counts_iff h i).1 hb) hc
theorem at_own (h:List Ev) (i k:Nat) (hc:countsL h i) (hl:lastN h (ev h i).2.1 (ev h i).2.2.1 i=some k):atL h i=if (ev h k).2.2.2=(ev h i).2.2.2 then (0,0,0) else (3,(i:Int),(k:Int)):=by
 unfold atL
 rw [if_neg (by rw [(counts_iff h i).2 hc];simp),hl]
open Go.RowKit
abbrev Bd:=Int × Int × Int
def badV (x:Bd):List Value:=[.int .i64 x.1,.int .i64 x.2.1,.int .i64 x.2.2]
theorem badV_one (x:Bd):∀ u∈badV x,u.oneCell'=true:=by
 intro u hu
 simp [badV] at hu
 rcases hu with rfl | rfl | rfl<;>rfl
abbrev badA (x:Bd):Value:=.agg #[.int .i64 x.1,.int .i64 x.2.1,.int .i64 x.2.2]
theorem bad_info:(Tryz.prog.info? 25).map (fun i=>(i.zero,i.size,i.bytes))=some (some (.agg #[.int .i64 0,.int .i64 0,.int .i64 0]),3,24):=by kernel_rfl
theorem size_bad:(Tryz.prog.info? 25).map (·.size)=some 3:=by kernel_rfl
def BdRow (t:TypeId) (w:World) (L:List Bd) (e:Ending) (w':World):Prop:=∃ v,e=.returned v∧Below w.heap.size w w'∧w'.ownsRow w.heap.size t 3 v L.length (recV badV L)
def countI (h:List Ev) (i:Int):Bool:=decide (0≤i)&&countsB h i.toNat
def atI (h:List Ev) (i:Int):Bd:=if 0≤i then atL h i.toNat else (0,0,0)
def outerI (h:List Ev) (i:Int):Bool:=decide (0≤i)&&outerB h i.toNat
theorem count_out (h:List Ev) (i:Nat) (hi:¬ i < h.length):countsB h i=false:=by unfold countsB;rw [decide_eq_false hi];rfl
theorem count_kind (h:List Ev) (i:Nat) (hk:(ev h i).1≠2):countsB h i=false:=by unfold countsB;rw [decide_eq_false hk];simp
theorem count_open (h:List Ev) (i:Nat) (he:endL h (ev h i).2.1 h.length=none):countsB h i=false:=by
 unfold countsB commL
 rw [he]
 simp
theorem count_end (h:List Ev) (i e:Nat) (hi:i < h.length) (hk:(ev h i).1=2) (he:endL h (ev h i).2.1 h.length=some e):countsB h i=(decide (i < e)&&decide ((ev h e).1=4)):=by
 unfold countsB commL
 rw [he,decide_eq_true hi,decide_eq_true hk]
 simp only
 by_cases h4:(ev h e).1=4
 ·rw [if_pos h4,decide_eq_true h4];simp
 ·rw [if_neg h4,decide_eq_false h4];simp
theorem results_row1 {P:Program} {fn:Func} {p:Tmp} {ty:TypeId} (h:fn.results=#[.cell p ty]) (tmps:Array Value) (w:World) (g:Nat) (t:TypeId) (cs:Array Value) (fr:Nat × Nat) (d:TypeDesc)
 (hp:tmps.getD p undef=.pointer (some ⟨g,0,none⟩)) (hg:w.heap[g]?=some (.cells cs t fr))
 (hu:P.underlying ty=some d) (hd:(match d with | .struct _ | .array _ _=>true | _=>false)=true) (hi:(P.info? ty).map (·.size)=some cs.size) :
 (results fn tmps).run P w=.ok (.agg cs) w:=by
 have hp':tmps[p]?.getD undef=.pointer (some ⟨g,0,none⟩):=by simpa using hp
 simp [results,h,hp',asAddr,run_loadVar_row w g t ty cs fr d hg hu hd hi]
theorem SBox.put3 {w:World} {g:Nat} {t:TypeId} {p q r:Value} (h:SBox w g t #[p,q,r]) (a b c:Value):SBox (((w.setCell ⟨g,0,none⟩ a).setCell ⟨g,1,none⟩ b).setCell ⟨g,2,none⟩ c) g t #[a,b,c]:=((h.set 0 a).set 1 b).set 2 c
theorem bel_put3 {B:Nat} {a w:World} (h:Below B a w) {g:Nat} (hg:B≤g) (p q r:Value):Below B a (((w.setCell ⟨g,0,none⟩ p).setCell ⟨g,1,none⟩ q).setCell ⟨g,2,none⟩ r) :=
 ((h.setCell (p:=⟨g,0,none⟩) hg p).setCell (p:=⟨g,1,none⟩) hg q).setCell (p:=⟨g,2,none⟩) hg r
attribute [local go_sem] ba_size
abbrev vdC (v:Vd) (vo vr:Value):Array Value:=#[.int .i64 v.1,.bool v.2.1,vo,.int .i64 v.2.2.2.1.1,.int .i64 v.2.2.2.1.2.1,.int .i64 v.2.2.2.1.2.2,vr]
theorem size_vd:(Tryz.prog.info? 28).map (·.size)=some 7:=by kernel_rfl
def sameV (a b:Vd):Bool:=decide (a.2.2.1=b.2.2.1)&&decide (a.2.2.2.2=b.2.2.2.2)&&decide (a.1=b.1)&&decide (a.2.1=b.2.1)&&(decide (a.2.2.2.1.1=b.2.2.2.1.1)&&decide (a.2.2.2.1.2.1=b.2.2.2.1.2.1)&&decide (a.2.2.2.1.2.2=b.2.2.2.1.2.2))
theorem sameV_iff (a b:Vd):sameV a b=true↔a=b:=by
 obtain ⟨a0,a1,aO,⟨p0,p1,p2⟩,aR⟩:=a
 obtain ⟨b0,b1,bO,⟨q0,q1,q2⟩,bR⟩:=b
 unfold sameV
 simp only [Bool.and_eq_true,decide_eq_true_eq,Prod.mk.injEq]
 constructor
 ·rintro ⟨⟨⟨⟨h3,h7⟩,h1⟩,h2⟩,⟨h4,h5⟩,h6⟩
  exact ⟨h1,h2,h3,⟨h4,h5,h6⟩,h7⟩
 ·rintro ⟨h1,h2,h3,⟨h4,h5,h6⟩,h7⟩
  exact ⟨⟨⟨⟨h3,h7⟩,h1⟩,h2⟩,⟨h4,h5⟩,h6⟩
def VRes (w:World) (r:Vd × Int) (e:Ending) (w':World):Prop:=∃ vo vr,e=.returned (.tuple #[.agg (vdC r.1 vo vr),.int .i64 r.2])∧Below w.heap.size w w' ∧
 w'.ownsRow w.heap.size 3 1 vo r.1.2.2.1.length (recV intV r.1.2.2.1)∧w'.ownsRow w.heap.size 54 5 vr r.1.2.2.2.2.length (recV edV r.1.2.2.2.2)
theorem SBox.put7 {W:World} {B t:Nat} {a b c d e f g:Value} (h:SBox W B t #[a,b,c,d,e,f,g]) (a' b' c' d' e' f' g':Value) :
 SBox (((((((W.setCell ⟨B,0,none⟩ a').setCell ⟨B,1,none⟩ b').setCell ⟨B,2,none⟩ c').setCell ⟨B,3,none⟩ d').setCell ⟨B,4,none⟩ e').setCell ⟨B,5,none⟩ f').setCell ⟨B,6,none⟩ g') B t #[a',b',c',d',e',f',g']:=by
 have h0:SBox (W.setCell ⟨B,0,none⟩ a') B t #[a',b,c,d,e,f,g]:=h.set 0 a'
 generalize W.setCell ⟨B,0,none⟩ a'=W0 at h0 ⊢
 have h1:SBox (W0.setCell ⟨B,1,none⟩ b') B t #[a',b',c,d,e,f,g]:=h0.set 1 b'
 generalize W0.setCell ⟨B,1,none⟩ b'=W1 at h1 ⊢
 have h2:SBox (W1.setCell ⟨B,2,none⟩ c') B t #[a',b',c',d,e,f,g]:=h1.set 2 c'
 generalize W1.setCell ⟨B,2,none⟩ c'=W2 at h2 ⊢
 have h3:SBox (W2.setCell ⟨B,3,none⟩ d') B t #[a',b',c',d',e,f,g]:=h2.set 3 d'
 generalize W2.setCell ⟨B,3,none⟩ d'=W3 at h3 ⊢
 have h4:SBox (W3.setCell ⟨B,4,none⟩ e') B t #[a',b',c',d',e',f,g]:=h3.set 4 e'
 generalize W3.setCell ⟨B,4,none⟩ e'=W4 at h4 ⊢
 have h5:SBox (W4.setCell ⟨B,5,none⟩ f') B t #[a',b',c',d',e',f',g]:=h4.set 5 f'
 generalize W4.setCell ⟨B,5,none⟩ f'=W5 at h5 ⊢
 exact h5.set 6 g'
theorem bel_put7 {n:Nat} {w W:World} {B:Nat} (h:Below n w W) (hb:n≤B) (a' b' c' d' e' f' g':Value) :
 Below n w (((((((W.setCell ⟨B,0,none⟩ a').setCell ⟨B,1,none⟩ b').setCell ⟨B,2,none⟩ c').setCell ⟨B,3,none⟩ d').setCell ⟨B,4,none⟩ e').setCell ⟨B,5,none⟩ f').setCell ⟨B,6,none⟩ g') :=
 ((((((h.setCell (p:=⟨B,0,none⟩) hb _).setCell (p:=⟨B,1,none⟩) hb _).setCell (p:=⟨B,2,none⟩) hb _).setCell (p:=⟨B,3,none⟩) hb _).setCell (p:=⟨B,4,none⟩) hb _).setCell (p:=⟨B,5,none⟩) hb _).setCell (p:=⟨B,6,none⟩) hb _
theorem owns_put7 {W:World} {A e k n B:Nat} {v:Value} {xs:List Value} (h:W.ownsRow A e k v n xs) (hne:some B≠v.ownBlock) (a' b' c' d' e' f' g':Value) :
 (((((((W.setCell ⟨B,0,none⟩ a').setCell ⟨B,1,none⟩ b').setCell ⟨B,2,none⟩ c').setCell ⟨B,3,none⟩ d').setCell ⟨B,4,none⟩ e').setCell ⟨B,5,none⟩ f').setCell ⟨B,6,none⟩ g').ownsRow A e k v n xs :=
 owns_keep7 (g:=B) (j:=6) (owns_keep7 (g:=B) (j:=5) (owns_keep7 (g:=B) (j:=4) (owns_keep7 (g:=B) (j:=3) (owns_keep7 (g:=B) (j:=2) (owns_keep7 (g:=B) (j:=1) (owns_keep7 (g:=B) (j:=0) h a' hne) b' hne) c' hne) d' hne) e' hne) f' hne) g' hne
theorem flat_next (l:List Stp) (k:Nat) (hk:k < l.length):flatL (l.take (k+1))=flatL (l.take k)++l[k].2.2:=by
 unfold flatL
 rw [List.take_succ_eq_append_getElem hk,List.flatMap_append]
 simp
theorem flat_take (l:List Stp) (k:Nat):(flatL (l.take k)).length≤(flatL l).length:=by
 have:flatL l=flatL (l.take k)++flatL (l.drop k):=by unfold flatL;rw [← List.flatMap_append,List.take_append_drop]
 rw [this,List.length_append]
 omega
theorem recE12_snoc (L:List Ed) (x:Ed):recV edV (L++[x])=recV edV L++edV x:=by rw [recV_append];simp [recV]
structure P12C:Prop where
 judge:∀ (h:List Ev) (v:Value) (w:World) (level:Int),IsEvs w v h→(∀ x∈h,goodE x)→h.length≤120→-9223372036854775808≤level∧level≤9223372036854775807→Calls Tryz.prog 12 #[v,.int .i64 level] w fun e w'=>VRes w (judgeL h level) e w'
 flat:∀ (l:List Stp) (vl:Value) (w:World),IsSts w vl l→l.length≤1048576→(flatL l).length≤1048576→Calls Tryz.prog 17 #[vl] w fun e w'=>EdRow 54 w (flatL l) e w'
 same:∀ (a b:Vd) (ao ar bo br:Value) (w:World),IsInts w ao a.2.2.1→IsEds w ar a.2.2.2.2→IsInts w bo b.2.2.1→IsEds w br b.2.2.2.2→Calls Tryz.prog 15 #[.agg (vdC a ao ar),.agg (vdC b bo br)] w fun e w'=>e=.returned (.bool (sameV a b))∧Below w.heap.size w w'
theorem fin_prefix {n:Nat} {pre:List (Fin n)} {x:Fin n} (h:pre++[x] <+: List.finRange n):pre <+: List.finRange n∧x.val=pre.length∧pre.length < n:=by
 have hl:=h.length_le
 rw [List.length_append,List.length_finRange] at hl
 have h1:pre <+: List.finRange n:=(List.prefix_append _ _).trans h
 refine ⟨h1,?_,by simp at hl;omega⟩
 have h2:=List.IsPrefix.getElem h (i:=pre.length) (by simp)
 rw [List.getElem_append_right (Nat.le_refl _)] at h2
 simp at h2
 rw [h2]
theorem fin_take {n k:Nat} (hk:k < n):(List.finRange n).take (k+1)=(List.finRange n).take k++[⟨k,hk⟩]:=by
 rw [List.take_succ_eq_append_getElem (by rw [List.length_finRange];exact hk),List.getElem_finRange]
 rfl
theorem lessB_lt:∀ a b:List UInt8,lessB a b=true↔a < b
 | [],[]=>by rw [lessB];simp
 | [],_::_=>by rw [lessB];simp
 | _::_,[]=>by rw [lessB];simp
 | a::l,b::m=>by
   rw [lessB,List.cons_lt_cons_iff]
   by_cases h:a < b
   ·rw [if_pos h];simp [h]
   ·rw [if_neg h]
    by_cases e:a=b
    ·rw [if_pos e,lessB_lt l m];simp [e]
    ·rw [if_neg e];simp [h,e]
theorem insK_sorted (k:List UInt8):∀ l:List (List UInt8),l.Pairwise (·< ·)→(insK k l).Pairwise (·< ·)
 | [],_=>by rw [insK];simp
 | x::l,hp=>by
   obtain ⟨h1,h2⟩:=List.pairwise_cons.1 hp
   rw [insK]
   by_cases hx:lessB x k=true
   ·rw [if_pos hx]
    refine List.pairwise_cons.2 ⟨fun y hy=>?_,insK_sorted k l h2⟩
    rcases (insK_mem k l y).1 hy with e | e
    ·rw [e];exact (lessB_lt x k).1 hx
    ·exact h1 y e
   ·rw [if_neg hx]
    by_cases e:x=k
    ·rw [if_pos e];exact hp
    ·rw [if_neg e]
     have hlt:k < x:=by
      have h3:k≤x:=List.not_lt.1 (fun hh=>hx ((lessB_lt x k).2 hh))
      rcases Classical.em (k < x) with h4 | h4
      ·exact h4
      ·exact absurd (List.le_antisymm h3 (List.not_lt.1 h4)).symm e
     refine List.pairwise_cons.2 ⟨fun y hy=>?_,hp⟩
     rcases List.mem_cons.1 hy with e' | e'
     ·rw [e'];exact hlt
     ·exact List.lt_trans hlt (h1 y e')
theorem keysF_sorted:∀ (l:List Ev) (acc:List (List UInt8)),acc.Pairwise (·< ·)→(keysF acc l).Pairwise (·< ·)
 | [],acc,h=>by rw [keysF];exact h
 | x::l,acc,h=>by
   rw [keysF]
   by_cases hk:keyedE x.1
   ·rw [if_pos hk];exact keysF_sorted l _ (insK_sorted _ _ h)
   ·rw [if_neg hk];exact keysF_sorted l _ h
theorem keysL_sorted (h:List Ev):(keysL h).Pairwise (·< ·):=keysF_sorted h [] List.Pairwise.nil
def kyS (K:List (List UInt8)) (y:Ev):List (List UInt8):=if y.1=2∨y.1=3 then (if y.2.2.1∈K then K else K++[y.2.2.1]) else K
def kyF (h:List Ev) (pre:List (Fin h.length)):List (List UInt8):=pre.foldl (fun K x=>kyS K h[x.val]) []
theorem kyF_snoc (h:List Ev) (pre:List (Fin h.length)) (x:Fin h.length):kyF h (pre++[x])=kyS (kyF h pre) h[x.val]:=by
 unfold kyF
 rw [List.foldl_append]
 rfl
theorem kyS_nodup (K:List (List UInt8)) (y:Ev) (hK:K.Nodup):(kyS K y).Nodup:=by
 unfold kyS
 by_cases h1:y.1=2∨y.1=3
 ·rw [if_pos h1]
  by_cases h2:y.2.2.1∈K
  ·rw [if_pos h2];exact hK
  ·rw [if_neg h2,List.nodup_append]
   refine ⟨hK,by simp,fun a ha b hb e=>?_⟩
   simp at hb
   rw [e,hb] at ha
   exact h2 ha
 ·rw [if_neg h1];exact hK
theorem kyS_mem (K:List (List UInt8)) (y:Ev) (k:List UInt8):k∈kyS K y↔k∈K∨((y.1=2∨y.1=3)∧y.2.2.1=k):=by
 unfold kyS
 by_cases h1:y.1=2∨y.1=3
 ·rw [if_pos h1]
  by_cases h2:y.2.2.1∈K
  ·rw [if_pos h2]
   constructor
   ·exact Or.inl
   ·rintro (h | ⟨_,e⟩)
    ·exact h
    ·rw [← e];exact h2
  ·rw [if_neg h2,List.mem_append,List.mem_singleton]
   constructor
   ·rintro (h | e)
    ·exact Or.inl h
    ·exact Or.inr ⟨h1,e.symm⟩
   ·rintro (h | ⟨_,e⟩)
    ·exact Or.inl h
    ·exact Or.inr e.symm
 ·rw [if_neg h1]
  constructor
  ·exact Or.inl
  ·rintro (h | ⟨e,_⟩)
   ·exact h
   ·exact absurd e h1
theorem kyG_nodup (h:List Ev):∀ (pre:List (Fin h.length)) (K:List (List UInt8)),K.Nodup→(pre.foldl (fun K x=>kyS K h[x.val]) K).Nodup
 | [],K,hK=>hK
 | x::pre,K,hK=>by rw [List.foldl_cons];exact kyG_nodup h pre _ (kyS_nodup K _ hK)
theorem kyG_mem (h:List Ev) (k:List UInt8):∀ (pre:List (Fin h.length)) (K:List (List UInt8)),k∈pre.foldl (fun K x=>kyS K h[x.val]) K↔k∈K∨∃ x∈pre,(h[x.val].1=2∨h[x.val].1=3)∧h[x.val].2.2.1=k
 | [],K=>by simp
 | x::pre,K=>by
   rw [List.foldl_cons,kyG_mem h k pre,kyS_mem]
   simp only [List.mem_cons,exists_eq_or_imp,or_assoc]
theorem kyG_len (h:List Ev):∀ (pre:List (Fin h.length)) (K:List (List UInt8)),(pre.foldl (fun K x=>kyS K h[x.val]) K).length≤K.length+pre.length
 | [],K=>Nat.le_refl _
 | x::pre,K=>by
   have h1:=kyG_len h pre (kyS K h[x.val])
   have h2:(kyS K h[x.val]).length≤K.length+1:=by
    unfold kyS
    by_cases h1:h[x.val].1=2∨h[x.val].1=3
    ·rw [if_pos h1]
     by_cases h2:h[x.val].2.2.1∈K
     ·rw [if_pos h2];omega
     ·rw [if_neg h2];simp
    ·rw [if_neg h1];omega
   rw [List.foldl_cons,List.length_cons]
   omega
theorem kyF_len (h:List Ev) (pre:List (Fin h.length)):(kyF h pre).length≤pre.length:=by have:=kyG_len h pre [];simpa [kyF] using this
theorem ky_sorted (h:List Ev):((kyF h (List.finRange h.length)).mergeSort fun x y=>decide (x≤y))=keysL h:=by
 have nd:(keysL h).Nodup:=List.Pairwise.imp (fun {a b} hlt e=>by rw [e] at hlt;exact List.lt_irrefl b hlt) (keysL_sorted h)
 have pm:(kyF h (List.finRange h.length)).Perm (keysL h):=by
  refine (List.perm_ext_iff_of_nodup (kyG_nodup h _ [] List.nodup_nil) nd).2 fun k=>?_
  rw [kyG_mem,keys_mem]
  constructor
  ·rintro (hh | ⟨x,_,h1,h2⟩)
   ·cases hh
   ·exact ⟨x.val,x.isLt,by rw [ev_get h _ x.isLt];exact h1,by rw [ev_get h _ x.isLt];exact h2⟩
  ·rintro ⟨i,hi,h1,h2⟩
   rw [ev_get h _ hi] at h1 h2
   exact Or.inr ⟨⟨i,hi⟩,List.mem_finRange _,h1,h2⟩
 refine List.Perm.eq_of_pairwise (le:=fun x y:List UInt8=>x≤y) (fun a b _ _ h1 h2=>List.le_antisymm h1 h2) ?_ ?_ ((List.mergeSort_perm _ _).trans pm)
 ·refine (List.pairwise_mergeSort (le:=fun x y:List UInt8=>decide (x≤y)) (fun a b c h1 h2=>?_) (fun a b=>?_) (kyF h (List.finRange h.length))).imp (fun {a b} hh=>by simpa using hh)
  ·rw [decide_eq_true_eq] at h1 h2 ⊢
   exact List.le_trans h1 h2
  ·rw [Bool.or_eq_true,decide_eq_true_eq,decide_eq_true_eq]
   exact List.le_total a b
 ·exact (keysL_sorted h).imp (fun {a b} hh=>List.le_of_lt hh)
def fiF (p:Nat→Bool) (m n:Nat):Option Nat:=((List.range n).drop m).find? p
theorem fiF_end (p:Nat→Bool) (n:Nat):fiF p n n=none:=by
 unfold fiF
 rw [List.drop_of_length_le (by rw [List.length_range];exact Nat.le_refl _)]
 rfl
theorem fiF_step (p:Nat→Bool) (m n:Nat) (hm:m < n):fiF p m n=if p m=true then some m else fiF p (m+1) n:=by
 unfold fiF
 rw [List.drop_eq_getElem_cons (by rw [List.length_range];exact hm),List.getElem_range]
 by_cases h:p m=true
 ·rw [if_pos h,List.find?_cons_of_pos h]
 ·rw [if_neg h,List.find?_cons_of_neg h]
theorem fiF_zero (p:Nat→Bool) (n:Nat):fiF p 0 n=fi p n:=rfl
def isVer (h:List Ev) (v:List Nat) (i n:Nat):Bool:=decide ((ev h (vAt v n)).2.2.2=(ev h i).2.2.2)
theorem verAt_is (h:List Ev) (v:List Nat) (i:Nat):verAt h v i=fi (isVer h v i) v.length:=rfl
def wTo (h:List Ev) (v:List Nat) (n:Nat):List Ed:=(List.range n).filterMap (wEdge h v)
theorem wTo_next (h:List Ev) (v:List Nat) (n:Nat):wTo h v (n+1)=wTo h v n++(wEdge h v n).toList:=by
 unfold wTo
 rw [List.range_succ,List.filterMap_append]
 cases hl:wEdge h v n with
 | none=>simp [hl]
 | some x=>simp [hl]
theorem wTo_len (h:List Ev) (v:List Nat) (n:Nat):(wTo h v n).length≤n:=by
 unfold wTo
 have:=List.length_filterMap_le (wEdge h v) (List.range n)
 rwa [List.length_range] at this
def rOf (h:List Ev) (key:List UInt8) (v:List Nat) (i:Nat):List Ed:=if readOf h key i=true then rdEdges h v i else []
def rTo (h:List Ev) (key:List UInt8) (v:List Nat) (i:Nat):List Ed:=(List.range i).flatMap (rOf h key v)
theorem rTo_next (h:List Ev) (key:List UInt8) (v:List Nat) (i:Nat):rTo h key v (i+1)=rTo h key v i++rOf h key v i:=by
 unfold rTo
 rw [List.range_succ,List.flatMap_append]
 simp
theorem rEdge_len (h:List Ev) (v:List Nat) (i n:Nat):(rEdge h v i n).length≤1:=by
 unfold rEdge
 by_cases hh:tx h (vAt v n)=tx h i
 ·rw [if_pos hh];simp
 ·rw [if_neg hh];simp
theorem oEdge_len (h:List Ev) (v:List Nat) (i n:Nat):(oEdge h v i n).length≤1:=by
 unfold oEdge
 by_cases hh:n < v.length∧tx h (vAt v n)≠tx h i
 ·rw [if_pos hh];simp
 ·rw [if_neg hh];simp
theorem rOf_len (h:List Ev) (key:List UInt8) (v:List Nat) (i:Nat):(rOf h key v i).length≤2:=by
 unfold rOf
 by_cases hh:readOf h key i=true
 ·rw [if_pos hh]
  unfold rdEdges
  cases verAt h v i with
  | none =>
    simp only
    by_cases hv:(ev h i).2.2.2=[]
    ·rw [if_pos hv];have:=oEdge_len h v i 0;omega
    ·rw [if_neg hv];simp
  | some n =>
    simp only
    rw [List.length_append]
    have:=rEdge_len h v i n
    have:=oEdge_len h v i (n+1)
    omega
 ·rw [if_neg hh];simp
theorem rTo_len (h:List Ev) (key:List UInt8) (v:List Nat):∀ i,(rTo h key v i).length≤2*i
 | 0=>by unfold rTo;simp
 | i+1=>by
   rw [rTo_next,List.length_append]
   have:=rTo_len h key v i
   have:=rOf_len h key v i
   omega
def eTo (h:List Ev) (k:Nat):List Ed:=((keysL h).take k).flatMap (keyEdges h)
theorem eTo_next (h:List Ev) (k:Nat) (hk:k < (keysL h).length):eTo h (k+1)=eTo h k++keyEdges h (keysL h)[k]:=by
 unfold eTo
 rw [List.take_succ_eq_append_getElem hk,List.flatMap_append]
 simp
theorem eTo_all (h:List Ev):eTo h (keysL h).length=edgesL h:=by
 unfold eTo edgesL
 rw [List.take_of_length_le (Nat.le_refl _)]
theorem keyEdges_is (h:List Ev) (key:List UInt8):keyEdges h key=wTo h (versL h key) ((versL h key).length - 1)++rTo h key (versL h key) h.length:=rfl
theorem eTo_len (h:List Ev) (n:Nat) (hn:h.length≤n):∀ k,k≤(keysL h).length→(eTo h k).length≤k*(3*n)
 | 0,_=>by unfold eTo;simp
 | k+1,hk=>by
   rw [eTo_next h k (by omega),List.length_append,keyEdges_is,List.length_append]
   have h1:=eTo_len h n hn k (by omega)
   have h2:=wTo_len h (versL h (keysL h)[k]) ((versL h (keysL h)[k]).length - 1)
   have h3:=rTo_len h (keysL h)[k] (versL h (keysL h)[k]) h.length
   have h4:=vers_len h (keysL h)[k]
   rw [Nat.succ_mul]
   omega
theorem vers_lt (h:List Ev) (key:List UInt8) (y:Nat) (hy:y∈versL h key):y < h.length:=by
 unfold versL at hy
 obtain ⟨i,hi,hv⟩:=List.mem_filterMap.1 hy
 have:=List.mem_range.1 hi
 have:=(verOf_some hv).2.2.1
 omega
theorem sum_add {α:Type} (f g:α→Nat):∀ K:List α,(K.map fun x=>f x+g x).sum=(K.map f).sum+(K.map g).sum
 | []=>rfl
 | x::K=>by simp only [List.map_cons,List.sum_cons];rw [sum_add f g K];omega
theorem sum_le {α:Type} (f g:α→Nat):∀ K:List α,(∀ x∈K,f x≤g x)→(K.map f).sum≤(K.map g).sum
 | [],_=>Nat.le_refl _
 | x::K,h=>by
   simp only [List.map_cons,List.sum_cons]
   have h1:=h x (List.mem_cons_self ..)
   have h2:=sum_le f g K (fun y hy=>h y (List.mem_cons_of_mem _ hy))
   omega
theorem sum_zero {α:Type}:∀ K:List α,(K.map fun _=>0).sum=0
 | []=>rfl
 | _::K=>by simp [sum_zero K]
theorem sum_one {α:Type} [DecidableEq α] (y:α):∀ K:List α,K.Nodup→(K.map fun k=>if y=k then 1 else 0).sum≤1
 | [],_=>by simp
 | x::K,h=>by
   obtain ⟨h1,h2⟩:=List.nodup_cons.1 h
   simp only [List.map_cons,List.sum_cons]
   have ih:=sum_one y K h2
   by_cases e:y=x
   ·rw [if_pos e]
    have:(K.map fun k=>if y=k then 1 else 0).sum=0:=by
     have e3:(K.map fun k=>if y=k then 1 else 0)=K.map fun _=>0:=List.map_congr_left (fun k hk=>if_neg (fun e2=>h1 (by rw [← e,e2];exact hk)))
     rw [e3,sum_zero]
    omega
   ·rw [if_neg e];omega
def kCnt (h:List Ev) (n:Nat) (key:List UInt8):Nat:=(List.range n).countP fun i=>decide ((ev h i).2.2.1=key)
theorem kCnt_sum (h:List Ev) (K:List (List UInt8)) (hK:K.Nodup):∀ n,(K.map (kCnt h n)).sum≤n
 | 0=>by
   have:K.map (kCnt h 0)=K.map fun _=>0:=List.map_congr_left (fun k _=>rfl)
   rw [this,sum_zero]
   exact Nat.le_refl _
 | n+1=>by
   have e:K.map (kCnt h (n+1))=K.map fun k=>kCnt h n k+if (ev h n).2.2.1=k then 1 else 0:=List.map_congr_left (fun k _=>by
    unfold kCnt
    rw [List.range_succ,List.countP_append,List.countP_singleton]
    simp)
   rw [e,sum_add]
   have h1:=kCnt_sum h K hK n
   have h2:=sum_one (ev h n).2.2.1 K hK
   omega
theorem nodup_count (l:List Nat) (n:Nat) (p:Nat→Bool) (hl:l.Nodup) (h:∀ x∈l,x < n∧p x=true):l.length≤(List.range n).countP p:=by
 have pm:l.Perm ((List.range n).filter fun x=>decide (x∈l)):=by
  refine (List.perm_ext_iff_of_nodup hl (List.Pairwise.filter _ List.nodup_range)).2 fun x=>?_
  rw [List.mem_filter,List.mem_range,decide_eq_true_eq]
  exact ⟨fun hx=>⟨(h x hx).1,hx⟩,fun hx=>hx.2⟩
 rw [pm.length_eq,← List.countP_eq_length_filter]
 exact List.countP_mono_left (fun x _ hx=>(h x (by simpa using hx)).2)
theorem vers_nodup (h:List Ev) (key:List UInt8):(versL h key).Nodup:=by
 unfold versL
 refine List.Pairwise.filterMap (R:=fun a b:Nat=>a < b) _ ?_ List.pairwise_lt_range
 intro a b hab x hx y hy exy
 have h1:=verOf_some hx
 have h2:=verOf_some hy
 subst exy
 have e:(ev h a).2.1=(ev h b).2.1:=h1.2.2.2.2.1.symm.trans h2.2.2.2.2.1
 have e1:=h1.2.1
 rw [e,h2.2.1] at e1
 have:=Option.some.inj e1
 omega
def c3 (h:List Ev) (key:List UInt8) (i:Nat):Bool:=decide ((ev h i).1=3)&&decide ((ev h i).2.2.1=key)
def c2 (h:List Ev) (key:List UInt8) (i:Nat):Bool:=decide ((ev h i).1=2)&&decide ((ev h i).2.2.1=key)
theorem rTo_cnt (h:List Ev) (key:List UInt8) (v:List Nat):∀ i,(rTo h key v i).length≤2*(List.range i).countP (c2 h key)
 | 0=>by unfold rTo;simp
 | i+1=>by
   rw [rTo_next,List.length_append,List.range_succ,List.countP_append,List.countP_singleton]
   have h1:=rTo_cnt h key v i
   have h2:=rOf_len h key v i
   by_cases hr:readOf h key i=true
   ·have hc:c2 h key i=true:=by
     unfold readOf at hr
     rw [Bool.and_eq_true,decide_eq_true_eq] at hr
     unfold outerB at hr
     rw [Bool.and_eq_true] at hr
     have:=(counts_iff h i).1 hr.2.1
     unfold c2
     rw [Bool.and_eq_true,decide_eq_true_eq,decide_eq_true_eq]
     exact ⟨this.2.1,hr.1⟩
    rw [hc]
    simp
    omega
   ·have:rOf h key v i=[]:=by unfold rOf;rw [if_neg hr]
    rw [this]
    simp
    omega
theorem c_sum (h:List Ev) (key:List UInt8):∀ n,(List.range n).countP (c3 h key)+2*(List.range n).countP (c2 h key)≤2*kCnt h n key
 | 0=>by simp [kCnt]
 | n+1=>by
   have ih:=c_sum h key n
   unfold kCnt at ih ⊢
   rw [List.range_succ,List.countP_append,List.countP_append,List.countP_append,List.countP_singleton,List.countP_singleton,List.countP_singleton]
   by_cases hk:(ev h n).2.2.1=key
   ·by_cases h3:(ev h n).1=3
    ·simp [c3,c2,hk,h3]
     omega
    ·by_cases h2:(ev h n).1=2
     ·simp [c3,c2,hk,h2]
      omega
     ·simp [c3,c2,hk,h3,h2]
      omega
   ·simp [c3,c2,hk]
    omega
theorem key_cnt (h:List Ev) (key:List UInt8):(keyEdges h key).length≤2*kCnt h h.length key:=by
 rw [keyEdges_is,List.length_append]
 have h1:=wTo_len h (versL h key) ((versL h key).length - 1)
 have h2:=rTo_cnt h key (versL h key) h.length
 have h3:=nodup_count (versL h key) h.length (c3 h key) (vers_nodup h key) (fun x hx=>⟨vers_lt h key x hx,by
  unfold versL at hx
  obtain ⟨i,_,hv⟩:=List.mem_filterMap.1 hx
  have:=verOf_some hv
  unfold c3
  rw [Bool.and_eq_true,decide_eq_true_eq,decide_eq_true_eq]
  exact ⟨this.2.2.2.1,this.2.2.2.2.2.1⟩⟩)
 have h4:=c_sum h key h.length
 omega
theorem edges_few (h:List Ev):(edgesL h).length≤2*h.length:=by
 unfold edgesL
 rw [List.length_flatMap]
 have nd:(keysL h).Nodup:=List.Pairwise.imp (fun {a b} hlt e=>by rw [e] at hlt;exact List.lt_irrefl b hlt) (keysL_sorted h)
 have h1:=sum_le (fun key=>(keyEdges h key).length) (fun key=>kCnt h h.length key+kCnt h h.length key) (keysL h) (fun k _=>by have:=key_cnt h k;omega)
 rw [sum_add] at h1
 have h2:=kCnt_sum h (keysL h) nd h.length
 omega
theorem ringL_few (l r:List Stp) (h:ringL l=some r):r.length≤l.length∨l=[]:=by
 by_cases h0:l=[]
 ·exact .inr h0
 ·left
  unfold ringL at h
  cases hn:ringN l with
  | none=>rw [hn] at h;cases h
  | some n =>
    rw [hn] at h
    simp only at h
    cases hs:ringAt l (n+1) with
    | none=>rw [hs] at h;cases h
    | some s =>
      rw [hs] at h
      simp only [Option.some.injEq] at h
      have hlt:=((fi_some _ _ _).1 hn).1
      have hp:=(path_ok l s (n+1) s (ring_at l (n+1) s hs).2.1).2.1
      rw [← h,hp]
      have hst:(startsL l).length≤l.length:=by
       have g:∀ (m:List Stp) (acc:List Int),(startsF acc m).length≤acc.length+m.length:=by
        intro m
        induction m with
        | nil=>intro acc;rw [startsF];simp
        | cons x m ih =>
          intro acc
          rw [startsF,List.length_cons]
          have:=ih (insI x.1 acc)
          have h2:∀ K:List Int,(insI x.1 K).length≤K.length+1:=by
           intro K
           induction K with
           | nil=>simp [insI]
           | cons y K ihK =>
             rw [insI]
             split
             ·simp;omega
             ·split<;>simp
          have:=h2 acc
          omega
       have:=g l []
       simpa [startsL] using this
      omega
theorem orderF_few (l:List Stp):∀ (n:Nat) (left o:List Int),orderF l n left=some o→o.length≤n
 | 0,left,o,h=>by
   rw [orderF] at h
   split at h
   ·cases h;simp
   ·cases h
 | n+1,left,o,h=>by
   rw [orderF] at h
   split at h
   ·cases h;simp
   ·cases hb:bestL l left with
    | none=>rw [hb] at h;cases h
    | some b =>
      rw [hb] at h
      simp only at h
      cases hr:orderF l n (left.filter fun x=>decide (x≠b)) with
      | none=>rw [hr] at h;cases h
      | some o' =>
        rw [hr] at h
        simp only [Option.some.injEq] at h
        have:=orderF_few l n _ o' hr
        rw [← h]
        simp
        omega
theorem nodes_len (l:List Stp):(nodesL l).length=2*l.length:=by
 unfold nodesL
 induction l with
 | nil=>rfl
 | cons x l ih=>rw [List.flatMap_cons,List.length_append,ih];simp;omega
def okN (t:Int):Prop:=-9223372036854775808≤t∧t≤9223372036854775807
abbrev fewH (h:List Ev):Prop:=(∀ x∈h,0≤x.2.1∧x.2.1≤99)∧h.length≤120
theorem stepOf_len12 (level:Int) (l:List Ed) (e:Ed):(stepOf level l e).length≤l.length+1:=by
 unfold stepOf
 rw [List.length_append]
 have h1:(if level=1∨level=2∧e.1≠3 then [one1 e] else []).length≤1:=by split<;>simp
 have h2:(if level=2∧e.1≠3 then l.filterMap fun g=>if g.1=3∧g.2.1=e.2.2.1 then some (two2 e g) else none else []).length≤l.length:=by
  split
  ·exact List.length_filterMap_le _ _
  ·simp
 omega
theorem steps_len12 (level:Int) (l:List Ed):(stepsL level l).length≤l.length*(l.length+1):=by
 unfold stepsL
 rw [List.length_flatMap]
 have h:=sum_le (fun e=>(stepOf level l e).length) (fun _=>l.length+1) l (fun e _=>stepOf_len12 level l e)
 rw [List.map_const',List.sum_replicate_nat] at h
 exact h
theorem flat_len (level:Int) (l:List Ed) (r:List Stp) (h:∀ s∈r,s∈stepsL level l):(flatL r).length≤r.length*2:=by
 unfold flatL
 rw [List.length_flatMap]
 have h:=sum_le (fun s:Stp=>s.2.2.length) (fun _=>2) r (fun s hs=>by
  rcases steps_cases level l s (h s hs) with ⟨e,_,_,rfl⟩ | ⟨_,e,_,g,_,hh⟩
  ·simp [one1]
  ·obtain ⟨_,_,_,rfl⟩:=hh
   simp [two2])
 rw [List.map_const',List.sum_replicate_nat] at h
 exact h
theorem wf_bounds {h:List Ev} (hw:WF h) (level:Int):(edgesL h).length≤512∧(stepsL level (edgesL h)).length≤262656∧(nodeL h).length≤301∧(flatL ((ringL (stepsL level (edgesL h))).getD [])).length≤525312:=by
 have h0:=hw.1
 have h1:=edges_few h
 have e1:(edgesL h).length≤512:=by omega
 have h2:=steps_len12 level (edgesL h)
 have e2:(stepsL level (edgesL h)).length≤262656:=Nat.le_trans h2 (Nat.le_trans (Nat.mul_le_mul e1 (Nat.succ_le_succ e1)) (by decide))
 refine ⟨e1,e2,nd_len h 301,?_⟩
 cases hr:ringL (stepsL level (edgesL h)) with
 | none=>simp [flatL]
 | some r =>
   simp only [Option.getD_some]
   have h3:=flat_len level (edgesL h) r (ring_some _ r hr).2.1
   rcases ringL_few _ r hr with h4 | h4
   ·omega
   ·rw [h4] at hr;cases hr
theorem wf_keys {h:List Ev} (hw:WF h):∀ x∈h,x.2.2.1.length≤1125899906842624:=by
 intro x hx
 obtain ⟨i,hi,rfl⟩:=List.getElem_of_mem hx
 have hm:=wf_may hw hi
 rw [ev_get h i hi] at hm
 unfold mayE at hm
 obtain ⟨_,hm⟩:=hm
 split at hm
 ·omega
 ·have:=hm.1
  rw [this]
  simp
theorem own_shape12 {W:World} {B e k n:Nat} {v:Value} {xs:List Value} (h:W.ownsRow B e k v n xs):∃ ad c,v=.slice ad n c:=by
 rcases h.2 with ⟨rfl,rfl⟩ | ⟨g,cap,cur,rfl,_⟩
 ·exact ⟨none,0,rfl⟩
 ·exact ⟨_,_,rfl⟩
theorem own_some12 {W:World} {B e k n:Nat} {v:Value} {xs:List Value} (h:W.ownsRow B e k v n xs) (h0:0 < n):∃ g cc,v=.slice (some ⟨g,0,none⟩) n cc∧n≤cc∧cc≤maxLen:=by
 rcases h.2 with ⟨_,h0'⟩ | ⟨g,cap,cur,rfl,_,_,h1,h2,_⟩
 ·omega
 ·exact ⟨g,cap,rfl,h1,h2⟩
theorem owns_base12 {W:World} {B C e k n:Nat} {v:Value} {xs:List Value} (h:W.ownsRow B e k v n xs) (hC:C≤B):W.ownsRow C e k v n xs:=by
 refine ⟨h.1,?_⟩
 rcases h.2 with hh | ⟨g,cap,cur,hv,hb,hg,rest⟩
 ·exact .inl hh
 ·exact .inr ⟨g,cap,cur,hv,Nat.le_trans hC hb,hg,rest⟩
set_option maxHeartbeats 2000000 in
theorem rfirst_any (h:List Ev) (v:Value) (w:World) (hT:IsEvs w v h) (t:Int) (m:Nat) (hm:m≤h.length) :
 Calls Tryz.prog 36 #[v,.int .i64 t,.int .i64 (m:Int)] w fun e w'=>e=.returned (.int .i64 (oI (fstL h t m)))∧Below w.heap.size w w':=by
 obtain ⟨a,cap,rfl,h1,h2,h3,HC⟩:=hT.reads
 obtain ⟨n,hn⟩:∃ n,h.length=n:=⟨_,rfl⟩
 have HN:Hid (h.length=n):=hn
 rw [hn] at h1 h3 hm ⊢
 clear hT hn
 go_enter Tryz.func36,Tryz.ntmps36
 go_wp2_with fail
 go_loopw [7] (fun i wr=>∃ k:Nat,k≤m∧i=.int .i64 k∧Hid (∀ j,j < k→ofTxn h t j=false)∧Below w.heap.size w wr) (fun i _=>m - (intOf i).toNat)
 case atStart=>exact ⟨0,Nat.zero_le _,rfl,(fun j hj=>by omega),Below.refl _ _⟩
 case round =>
  obtain ⟨k,hk,rfl,HA,hbw⟩:=hrel
  by_cases hlt:k < m
  ·have hk1:k < h.length:=by have:=HN.out;omega
   have hkn:k < n:=by omega
   obtain ⟨bb,off,rfl,HQ⟩:=HC.out (by omega)
   obtain ⟨c0,c1,c2,c3⟩:=HQ.out k hk1 _ hbw
   obtain ⟨⟨x0,x1,x2,x3⟩,hx⟩:∃ x,ev h k=x:=⟨_,rfl⟩
   have HX:Hid (ev h k=(x0,x1,x2,x3)):=hx
   rw [hx] at c0 c1 c2 c3
   simp only at c0 c1 c2 c3
   clear hx
   by_cases d:x1=t
   ·have e1:(x1==t)=true:=by rw [d];exact beq_self_eq_true _
    have HR:Hid (fstL h t m=some k):=(fi_some _ _ _).2 ⟨hlt,by show decide _=true;rw [HX.out];exact decide_eq_true (d),HA.out⟩
    go_wp2_with fail
    go_ret
    exact ⟨by rw [HR.out];rfl,hbw⟩
   ·have e1:(x1==t)=false:=beq_eq_false_iff_ne.2 d
    have HA':Hid (∀ j,j < k+1→ofTxn h t j=false):=upto_next _ k HA.out (by show decide _=false;rw [HX.out];exact decide_eq_false (d))
    go_wp2_with fail
    refine ⟨?relrfirst_any1,?mearfirst_any1⟩
    case relrfirst_any1=>exact ⟨k+1,by omega,by first | go_num | simp,HA',hbw⟩
    case mearfirst_any1=>simp [intOf];omega
  ·have HR:Hid (fstL h t m=none):=(fi_none _ _).2 (by
    obtain rfl:k=m:=by omega
    exact HA.out)
   go_wp2_with fail
   go_ret
   exact ⟨by rw [HR.out];rfl,hbw⟩
set_option maxHeartbeats 2000000 in
theorem rend_any (h:List Ev) (v:Value) (w:World) (hT:IsEvs w v h) (t:Int) (m:Nat) (hm:m≤h.length) :
 Calls Tryz.prog 37 #[v,.int .i64 t,.int .i64 (m:Int)] w fun e w'=>e=.returned (.int .i64 (oI (endL h t m)))∧Below w.heap.size w w':=by
 obtain ⟨a,cap,rfl,h1,h2,h3,HC⟩:=hT.reads
 obtain ⟨n,hn⟩:∃ n,h.length=n:=⟨_,rfl⟩
 have HN:Hid (h.length=n):=hn
 rw [hn] at h1 h3 hm ⊢
 clear hT hn
 go_enter Tryz.func37,Tryz.ntmps37
 go_wp2_with fail
 go_loopw [7] (fun i wr=>∃ k:Nat,k≤m∧i=.int .i64 k∧Hid (∀ j,j < k→isEnd h t j=false)∧Below w.heap.size w wr) (fun i _=>m - (intOf i).toNat)
 case atStart=>exact ⟨0,Nat.zero_le _,rfl,(fun j hj=>by omega),Below.refl _ _⟩
 case round =>
  obtain ⟨k,hk,rfl,HA,hbw⟩:=hrel
  by_cases hlt:k < m
  ·have hk1:k < h.length:=by have:=HN.out;omega
   have hkn:k < n:=by omega
   obtain ⟨bb,off,rfl,HQ⟩:=HC.out (by omega)
   obtain ⟨c0,c1,c2,c3⟩:=HQ.out k hk1 _ hbw
   obtain ⟨⟨x0,x1,x2,x3⟩,hx⟩:∃ x,ev h k=x:=⟨_,rfl⟩
   have HX:Hid (ev h k=(x0,x1,x2,x3)):=hx
   rw [hx] at c0 c1 c2 c3
   simp only at c0 c1 c2 c3
   clear hx
   by_cases d:x1=t
   ·have e1:(x1==t)=true:=by rw [d];exact beq_self_eq_true _
    by_cases d4:x0=4
    ·have e4:(x0==4)=true:=by rw [d4];rfl
     have HR:Hid (endL h t m=some k):=(fi_some _ _ _).2 ⟨hlt,by show decide _=true;rw [HX.out];exact decide_eq_true (⟨d,Or.inl d4⟩),HA.out⟩
     go_wp2_with fail
     go_ret
     exact ⟨by rw [HR.out];rfl,hbw⟩
    ·have e4:(x0==4)=false:=beq_eq_false_iff_ne.2 d4
     by_cases d5:x0=5
     ·have e5:(x0==5)=true:=by rw [d5];rfl
      have HR:Hid (endL h t m=some k):=(fi_some _ _ _).2 ⟨hlt,by show decide _=true;rw [HX.out];exact decide_eq_true (⟨d,Or.inr d5⟩),HA.out⟩
      go_wp2_with fail
      go_ret
      exact ⟨by rw [HR.out];rfl,hbw⟩
     ·have e5:(x0==5)=false:=beq_eq_false_iff_ne.2 d5
      have HA':Hid (∀ j,j < k+1→isEnd h t j=false):=upto_next _ k HA.out (by show decide _=false;rw [HX.out];exact decide_eq_false (fun hh=>hh.2.elim d4 d5))
      go_wp2_with fail
      refine ⟨?relrend_any1,?mearend_any1⟩
      case relrend_any1=>exact ⟨k+1,by omega,by first | go_num | simp,HA',hbw⟩
      case mearend_any1=>simp [intOf];omega
   ·have e1:(x1==t)=false:=beq_eq_false_iff_ne.2 d
    have HA':Hid (∀ j,j < k+1→isEnd h t j=false):=upto_next _ k HA.out (by show decide _=false;rw [HX.out];exact decide_eq_false (fun hh=>d hh.1))
    go_wp2_with fail
    refine ⟨?relrend_any2,?mearend_any2⟩
    case relrend_any2=>exact ⟨k+1,by omega,by first | go_num | simp,HA',hbw⟩
    case mearend_any2=>simp [intOf];omega
  ·have HR:Hid (endL h t m=none):=(fi_none _ _).2 (by
    obtain rfl:k=m:=by omega
    exact HA.out)
   go_wp2_with fail
   go_ret
   exact ⟨by rw [HR.out];rfl,hbw⟩
set_option maxHeartbeats 2000000 in
theorem rwriter_any (h:List Ev) (v:Value) (w:World) (hT:IsEvs w v h) (key val:List UInt8) :
 Calls Tryz.prog 38 #[v,.string ⟨key.toArray⟩,.string ⟨val.toArray⟩] w fun e w'=>e=.returned (.int .i64 (oI (writerL h key val)))∧Below w.heap.size w w':=by
 obtain ⟨a,cap,rfl,h1,h2,h3,HC⟩:=hT.reads
 obtain ⟨n,hn⟩:∃ n,h.length=n:=⟨_,rfl⟩
 have HN:Hid (h.length=n):=hn
 have HW:Hid (writerL h key val=fi (isWr h key val) n):=by show _=_;unfold writerL;rw [hn]
 rw [HW.out]
 rw [hn] at h1 h3 ⊢
 clear hT hn
 go_enter Tryz.func38,Tryz.ntmps38
 go_wp2_with fail
 go_loopw [7] (fun i wr=>∃ k:Nat,k≤n∧i=.int .i64 k∧Hid (∀ j,j < k→isWr h key val j=false)∧Below w.heap.size w wr) (fun i _=>n - (intOf i).toNat)
 case atStart=>exact ⟨0,Nat.zero_le _,rfl,(fun j hj=>by omega),Below.refl _ _⟩
 case round =>
  obtain ⟨k,hk,rfl,HA,hbw⟩:=hrel
  by_cases hlt:k < n
  ·have hk1:k < h.length:=by have:=HN.out;omega
   have hkn:k < n:=by omega
   obtain ⟨bb,off,rfl,HQ⟩:=HC.out (by omega)
   obtain ⟨c0,c1,c2,c3⟩:=HQ.out k hk1 _ hbw
   obtain ⟨⟨x0,x1,x2,x3⟩,hx⟩:∃ x,ev h k=x:=⟨_,rfl⟩
   have HX:Hid (ev h k=(x0,x1,x2,x3)):=hx
   rw [hx] at c0 c1 c2 c3
   simp only at c0 c1 c2 c3
   clear hx
   by_cases d:x0=3
   ·have e1:(x0==3)=true:=by rw [d];rfl
    by_cases d4:x2=key
    ·have e4:(x2==key)=true:=by rw [d4];exact beq_self_eq_true _
     by_cases d5:x3=val
     ·have e5:(x3==val)=true:=by rw [d5];exact beq_self_eq_true _
      have HR:Hid (fi (isWr h key val) n=some k):=(fi_some _ _ _).2 ⟨hlt,by show decide _=true;rw [HX.out];exact decide_eq_true (⟨d,d4,d5⟩),HA.out⟩
      go_wp2_with fail
      go_ret
      exact ⟨by rw [HR.out];rfl,hbw⟩
     ·have e5:(x3==val)=false:=beq_eq_false_iff_ne.2 d5
      have HA':Hid (∀ j,j < k+1→isWr h key val j=false):=upto_next _ k HA.out (by show decide _=false;rw [HX.out];exact decide_eq_false (fun hh=>d5 hh.2.2))
      go_wp2_with fail
      refine ⟨?relrwriter_any1,?mearwriter_any1⟩
      case relrwriter_any1=>exact ⟨k+1,by omega,by first | go_num | simp,HA',hbw⟩
      case mearwriter_any1=>simp [intOf];omega
    ·have e4:(x2==key)=false:=beq_eq_false_iff_ne.2 d4
     have HA':Hid (∀ j,j < k+1→isWr h key val j=false):=upto_next _ k HA.out (by show decide _=false;rw [HX.out];exact decide_eq_false (fun hh=>d4 hh.2.1))
     go_wp2_with fail
     refine ⟨?relrwriter_any2,?mearwriter_any2⟩
     case relrwriter_any2=>exact ⟨k+1,by omega,by first | go_num | simp,HA',hbw⟩
     case mearwriter_any2=>simp [intOf];omega
   ·have e1:(x0==3)=false:=beq_eq_false_iff_ne.2 d
    have HA':Hid (∀ j,j < k+1→isWr h key val j=false):=upto_next _ k HA.out (by show decide _=false;rw [HX.out];exact decide_eq_false (fun hh=>d hh.1))
    go_wp2_with fail
    refine ⟨?relrwriter_any3,?mearwriter_any3⟩
    case relrwriter_any3=>exact ⟨k+1,by omega,by first | go_num | simp,HA',hbw⟩
    case mearwriter_any3=>simp [intOf];omega
  ·have HR:Hid (fi (isWr h key val) n=none):=(fi_none _ _).2 (by
    obtain rfl:k=n:=by omega
    exact HA.out)
   go_wp2_with fail
   go_ret
   exact ⟨by rw [HR.out];rfl,hbw⟩
theorem ne_empty' (l:List UInt8) (h:l≠[]):l.isEmpty=false:=by cases l with
 | nil=>exact absurd rfl h
 | cons _ _=>rfl
set_option maxHeartbeats 1000000 in
theorem rmay_any (k t:Int) (a b:List UInt8) (w:World) :
 Calls Tryz.prog 35 #[.agg #[.int .i64 k,.int .i64 t,.string ⟨a.toArray⟩,.string ⟨b.toArray⟩]] w fun e w'=>e=.returned (.bool (decide (mayE (k,t,a,b))))∧Below w.heap.size w w':=by
 have al:∀ o,Below w.heap.size w (w.alloc o):=fun o=>(Below.refl _ w).alloc (Nat.le_refl _) o
 by_cases c0:k < 1
 ·rw [decide_eq_false (show ¬ mayE _ from fun h=>by have h:=mayE_range h;omega)]
  go_enter Tryz.func35,Tryz.ntmps35
  go_wp2_with fail
  go_ret
  exact ⟨rfl,al _⟩
 ·have c0':¬ k < 1:=c0
  by_cases c1:5 < k
  ·rw [decide_eq_false (show ¬ mayE _ from fun h=>by have h:=mayE_range h;omega)]
   go_enter Tryz.func35,Tryz.ntmps35
   go_wp2_with fail
   go_ret
   exact ⟨rfl,al _⟩
  ·have c1':¬ 5 < k:=c1
   by_cases c2:t < 1
   ·rw [decide_eq_false (show ¬ mayE _ from fun h=>by have h:=mayE_range h;omega)]
    go_enter Tryz.func35,Tryz.ntmps35
    go_wp2_with fail
    go_ret
    exact ⟨rfl,al _⟩
   ·have c2':¬ t < 1:=c2
    by_cases c3:32 < t
    ·rw [decide_eq_false (show ¬ mayE _ from fun h=>by have h:=mayE_range h;omega)]
     go_enter Tryz.func35,Tryz.ntmps35
     go_wp2_with fail
     go_ret
     exact ⟨rfl,al _⟩
    ·have c3':¬ 32 < t:=c3
     by_cases u1:k=2∨k=3
     ·have q1:k=2∨k=3:=u1
      by_cases d1:a.length < 1
      ·have j1:(a.length:Int) < 1:=by omega
       rw [decide_eq_false (show ¬ mayE _ from fun h=>by have h:=(mayE_key u1).1 h;omega)]
       rcases u1 with rfl | rfl
       all_goals
        go_enter Tryz.func35,Tryz.ntmps35
        go_wp2_with fail
        go_ret
        exact ⟨rfl,al _⟩
      ·have j1:¬ (a.length:Int) < 1:=by omega
       by_cases d2:32 < a.length
       ·have j2:(32:Int) < (a.length:Int):=by omega
        rw [decide_eq_false (show ¬ mayE _ from fun h=>by have h:=(mayE_key u1).1 h;omega)]
        rcases u1 with rfl | rfl
        all_goals
         go_enter Tryz.func35,Tryz.ntmps35
         go_wp2_with fail
         go_ret
         exact ⟨rfl,al _⟩
       ·have j2:¬ (32:Int) < (a.length:Int):=by omega
        by_cases d3:32 < b.length
        ·have j3:(32:Int) < (b.length:Int):=by omega
         rw [decide_eq_false (show ¬ mayE _ from fun h=>by have h:=(mayE_key u1).1 h;omega)]
         rcases u1 with rfl | rfl
         all_goals
          go_enter Tryz.func35,Tryz.ntmps35
          go_wp2_with fail
          go_ret
          exact ⟨rfl,al _⟩
        ·have j3:¬ (32:Int) < (b.length:Int):=by omega
         rcases u1 with rfl | rfl
         ·rw [decide_eq_true (show mayE _ from by rw [mayE_key q1];omega)]
          go_enter Tryz.func35,Tryz.ntmps35
          go_wp2_with fail
          go_ret
          exact ⟨rfl,al _⟩
         ·by_cases d4:0 < b.length
          ·have j4:(0:Int) < (b.length:Int):=by omega
           rw [decide_eq_true (show mayE _ from by rw [mayE_key q1];omega)]
           go_enter Tryz.func35,Tryz.ntmps35
           go_wp2_with fail
           go_ret
           exact ⟨rfl,al _⟩
          ·have j4:¬ (0:Int) < (b.length:Int):=by omega
           rw [decide_eq_false (show ¬ mayE _ from fun h=>by have h:=(mayE_key q1).1 h;omega)]
           go_enter Tryz.func35,Tryz.ntmps35
           go_wp2_with fail
           go_ret
           exact ⟨rfl,al _⟩
     ·have q1:(k != 2)=true:=by rw [bne_iff_ne];omega
      have q2:(k != 3)=true:=by rw [bne_iff_ne];omega
      by_cases d1:a=[]
      ·by_cases d2:b=[]
       ·rw [decide_eq_true (show mayE _ from by rw [mayE_unkey u1];exact ⟨by omega,d1,d2⟩)]
        subst d1 d2
        go_enter Tryz.func35,Tryz.ntmps35
        go_wp2_with fail
        go_ret
        exact ⟨rfl,al _⟩
       ·rw [decide_eq_false (show ¬ mayE _ from fun h=>by exact d2 ((mayE_unkey u1).1 h).2.2)]
        have n2:=ne_empty' b d2
        subst d1
        go_enter Tryz.func35,Tryz.ntmps35
        go_wp2_with fail
        go_ret
        exact ⟨rfl,al _⟩
      ·rw [decide_eq_false (show ¬ mayE _ from fun h=>by exact d1 ((mayE_unkey u1).1 h).2.1)]
       have n1:=ne_empty' a d1
       go_enter Tryz.func35,Tryz.ntmps35
       go_wp2_with fail
       go_ret
       exact ⟨rfl,al _⟩
set_option maxHeartbeats 2000000 in
theorem rcounts_any (h:List Ev) (v:Value) (w:World) (hT:IsEvs w v h) (i:Int) :
 Calls Tryz.prog 60 #[v,.int .i64 i] w fun e w'=>e=.returned (.bool (countI h i))∧Below w.heap.size w w':=by
 have C1:=fun (t:Int) W hW=>rend_any h v W (hT.below (w':=W) hW) t h.length (Nat.le_refl _)
 obtain ⟨a,cap,rfl,h1,h2,h3,HC⟩:=hT.reads
 obtain ⟨n,hn⟩:∃ n,h.length=n:=⟨_,rfl⟩
 have HN:Hid (h.length=n):=hn
 simp only [hn] at C1
 rw [hn] at h1 h3 ⊢
 clear hT hn
 by_cases i0:i < 0
 ·rw [show countI h i=false by unfold countI;rw [decide_eq_false (by omega)];rfl]
  go_enter Tryz.func60,Tryz.ntmps60
  go_wp2_with fail
  go_ret
  exact ⟨rfl,Below.refl _ _⟩
 ·obtain ⟨q,rfl⟩:∃ q:Nat,i=(q:Int):=⟨i.toNat,by omega⟩
  have HQQ:Hid (countI h (q:Int)=countsB h q):=by show _=_;unfold countI;rw [decide_eq_true (by omega)];simp
  by_cases i1:q < n
  ·have hq1:q < h.length:=by have:=HN.out;omega
   have j1:¬ (n:Int)≤(q:Int):=by omega
   have j11:¬ n≤q:=by omega
   obtain ⟨bb,off,rfl,HQ⟩:=HC.out (by omega)
   obtain ⟨c0,c1,_,_⟩:=HQ.out q hq1 _ (Below.refl _ _)
   obtain ⟨⟨x0,x1,x2,x3⟩,hx⟩:∃ x,ev h q=x:=⟨_,rfl⟩
   have HX:Hid (ev h q=(x0,x1,x2,x3)):=hx
   rw [hx] at c0 c1
   simp only at c0 c1
   clear hx
   by_cases d:x0=2
   ·have e2:(x0 != 2)=false:=by rw [d];rfl
    have D:=C1 x1
    rcases he:endL h x1 n with _ | e
    ·rw [HQQ.out,count_open h q (by rw [HX.out,HN.out];exact he)]
     rw [he] at D
     simp only [oI] at D
     have j2:¬ (q:Int) < -1:=by omega
     clear he d
     go_enter Tryz.func60,Tryz.ntmps60
     go_wp2_with fail
     refine (D _ (Below.refl _ _)).mono ?_
     rintro e w1 ⟨rfl,b1⟩
     go_wp2_with fail
     go_ret
     exact ⟨rfl,b1⟩
    ·have hel:e < h.length:=by have:=((fi_some _ _ _).1 he).1;have:=HN.out;omega
     have HCE:Hid (countsB h q=(decide (q < e)&&decide ((ev h e).1=4))):=count_end h q e hq1 (by rw [HX.out];exact d) (by rw [HX.out,HN.out];exact he)
     rw [HQQ.out,HCE.out]
     rw [he] at D
     simp only [oI] at D
     have HE:Hid (e < h.length):=hel
     have hen:e < n:=by have:=HN.out;omega
     clear he d hel
     by_cases l1:q < e
     ·have l2:(q:Int) < (e:Int):=by omega
      rw [decide_eq_true l1]
      obtain ⟨z0,hz⟩:∃ z,(ev h e).1=z:=⟨_,rfl⟩
      have HZ:Hid ((ev h e).1=z0):=hz
      rw [hz]
      clear hz
      by_cases l3:z0=4
      ·have l4:(z0==4)=true:=by rw [l3];rfl
       rw [decide_eq_true l3]
       clear l3
       go_enter Tryz.func60,Tryz.ntmps60
       go_wp2_with fail
       refine (D _ (Below.refl _ _)).mono ?_
       rintro e' w1 ⟨rfl,b1⟩
       have m0:=(HQ.out e HE.out _ b1).1
       rw [HZ.out] at m0
       go_wp2_with fail
       go_ret
       exact ⟨rfl,b1⟩
      ·have l4:(z0==4)=false:=beq_eq_false_iff_ne.2 l3
       rw [decide_eq_false l3]
       go_enter Tryz.func60,Tryz.ntmps60
       go_wp2_with fail
       refine (D _ (Below.refl _ _)).mono ?_
       rintro e' w1 ⟨rfl,b1⟩
       have m0:=(HQ.out e HE.out _ b1).1
       rw [HZ.out] at m0
       go_wp2_with fail
       go_ret
       exact ⟨rfl,b1⟩
     ·have l2:¬ (q:Int) < (e:Int):=by omega
      rw [decide_eq_false l1,Bool.false_and]
      go_enter Tryz.func60,Tryz.ntmps60
      go_wp2_with fail
      refine (D _ (Below.refl _ _)).mono ?_
      rintro e' w1 ⟨rfl,b1⟩
      go_wp2_with fail
      go_ret
      exact ⟨rfl,b1⟩
   ·have e2:(x0 != 2)=true:=bne_iff_ne.2 d
    rw [HQQ.out,count_kind h q (by rw [HX.out];exact d)]
    go_enter Tryz.func60,Tryz.ntmps60
    go_wp2_with fail
    go_ret
    exact ⟨rfl,Below.refl _ _⟩
  ·have j1:(n:Int)≤(q:Int):=by omega
   have j11:n≤q:=by omega
   rw [HQQ.out,count_out h q (by have:=HN.out;omega)]
   go_enter Tryz.func60,Tryz.ntmps60
   go_wp2_with fail
   go_ret
   exact ⟨rfl,Below.refl _ _⟩
end Go.Proofs.YtiihegldhnlleaaGreat
