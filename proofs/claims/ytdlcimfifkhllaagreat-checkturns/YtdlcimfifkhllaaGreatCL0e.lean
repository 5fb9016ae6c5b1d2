/-
  Orders by the places of numbers: in lists, of no program. Maps and sets that a call has made, with whole numbers or texts for keys: of no program but for the ty
-/
import Derived.Test.YtdlcimfifkhllaaGreatCL0c
import Derived.Maps.OwnSet
import Derived.Maps.OwnOps
import Derived.Maps.OwnIn
import Derived.Shelf.Sort.Plain
import Derived.Shelf.Slices.In.SortNone
namespace Go.Proofs.YtdlcimfifkhllaaGreat
set_option maxRecDepth 100000
set_option linter.unusedVariables false
def pl13 (o:List Int):Nat→Int→Option Nat
 | 0,_=>none
 | k+1,x=>if x=o.getD k 0 then some k else pl13 o k x
theorem pl13_dom (o:List Int) (x:Int):∀ k,k≤o.length→x∈o.take k→pl13 o k x≠none
 | 0,_,h=>by simp at h
 | k+1,h,hm=>by
   rw [pl13]
   by_cases hx:x=o.getD k 0
   ·rw [if_pos hx];simp
   ·rw [if_neg hx]
    rw [List.take_succ_eq_append_getElem (by omega),List.mem_append,List.mem_singleton,← getD_in (show k < o.length by omega)] at hm
    exact pl13_dom o x k (by omega) (hm.resolve_right hx)
theorem pl13_val (o:List Int) (x:Int):∀ k p,k≤o.length→pl13 o k x=some p→p < k∧o.getD p 0=x
 | 0,p,_,h=>by cases h
 | k+1,p,hk,h=>by
   rw [pl13] at h
   by_cases e:x=o.getD k 0
   ·rw [if_pos e] at h;cases h;exact ⟨by omega,e.symm⟩
   ·rw [if_neg e] at h
    obtain ⟨a,b⟩:=pl13_val o x k p (by omega) h
    exact ⟨by omega,b⟩
theorem pl13_pl (o:List Int) (hn:o.Nodup) (x:Int) (hx:x∈o):∃ p,p < o.length∧pl13 o o.length x=some p∧plN o x=some p:=by
 cases h:pl13 o o.length x with
 | none=>exact absurd h (pl13_dom o x _ (Nat.le_refl _) (by rw [List.take_length];exact hx))
 | some p =>
   obtain ⟨a,b⟩:=pl13_val o x _ p (Nat.le_refl _) h
   refine ⟨p,a,rfl,?_⟩
   rw [plN_some]
   refine ⟨a,b,fun j hj e=>?_⟩
   rw [getD_in a] at b
   rw [getD_in (show j < o.length by omega)] at e
   have:=nodup_at hn (by omega) a (e.trans b.symm)
   omega
theorem steps_few13 {h:List Ev} (hf:fewH h) (level:Int) (s:Stp) (hs:s∈stepsL level (edgesL h)):s.1∈nodeL h∧s.2.1∈nodeL h:=by
 obtain ⟨e,he,g,hg,e1,e2⟩:=step_ends h level s hs
 obtain ⟨a,_,i,_,ca,_,_,_,_,hi,_,_,t1,_⟩:=edges_apart h e he
 obtain ⟨_,b,_,j,_,cb,_,_,_,_,hj,_,_,t2⟩:=edges_apart h g hg
 have l1:=hf.1 h[i] (List.getElem_mem hi)
 have l2:=hf.1 h[j] (List.getElem_mem hj)
 rw [← ev_get h i hi] at l1
 rw [← ev_get h j hj] at l2
 unfold tx at t1 t2
 rw [t1] at l1
 rw [t2] at l2
 unfold nodeL
 rw [nd_mem,nd_mem,e1,e2]
 refine ⟨⟨by omega,?_⟩,⟨by omega,?_⟩⟩
 ·rw [ca];simp
 ·rw [cb];simp
theorem node_nodup13 (h:List Ev):(nodeL h).Nodup:=List.Pairwise.imp (fun {a b} hlt e=>by omega) (nd_sorted h 301)
theorem sort_pair13 (o:List Int):(o.mergeSort fun x y=>decide (x≤y)).Pairwise (fun a b=>a≤b):=by
 refine (List.pairwise_mergeSort (le:=fun x y:Int=>decide (x≤y)) (fun a b c h1 h2=>?_) (fun a b=>?_) o).imp (fun {a b} hh=>by simpa using hh)
 ·rw [decide_eq_true_eq] at h1 h2 ⊢
  omega
 ·rw [Bool.or_eq_true,decide_eq_true_eq,decide_eq_true_eq]
  omega
theorem sub_perm13:∀ (a b:List Int),a.Nodup→(∀ x∈a,x∈b)→a.length=b.length→a.Perm b
 | [],b,_,_,hl=>by rw [List.length_eq_zero_iff.1 hl.symm]
 | x::a,b,hn,hs,hl=>by
   have hx:=hs x (List.mem_cons_self ..)
   obtain ⟨n1,n2⟩:=List.nodup_cons.1 hn
   refine ((sub_perm13 a (b.erase x) n2 (fun y hy=>?_) ?_).cons x).trans (List.perm_cons_erase hx).symm
   ·exact (List.mem_erase_of_ne (fun (e:y=x)=>n1 (by rw [← e];exact hy))).2 (hs y (List.mem_cons_of_mem _ hy))
   ·rw [List.length_erase_of_mem hx,← hl];simp
theorem sort_iff13 (h:List Ev) (o:List Int):(o.mergeSort fun x y=>decide (x≤y))=nodeL h↔(nodeL h).length=o.length∧∀ x∈nodeL h,x∈o:=by
 constructor
 ·intro e
  have pm:(nodeL h).Perm o:=e ▸ List.mergeSort_perm o _
  exact ⟨pm.length_eq,fun x hx=>pm.mem_iff.1 hx⟩
 ·rintro ⟨h1,h2⟩
  have pm:(nodeL h).Perm o:=sub_perm13 _ o (node_nodup13 h) h2 h1
  refine List.Perm.eq_of_pairwise (le:=fun x y:Int=>x≤y) (fun a b _ _ h1 h2=>Int.le_antisymm h1 h2) (sort_pair13 o) ((nd_sorted h 301).imp (fun {a b} hh=>by omega)) ((List.mergeSort_perm _ _).trans pm.symm)
theorem sort_no13 (h:List Ev) (level:Int) (o:List Int) (hn:(o.mergeSort fun x y=>decide (x≤y))≠nodeL h):aheadB h level o=false:=by
 cases ha:aheadB h level o with
 | false=>rfl
 | true =>
   obtain ⟨a,b,_⟩:=(ahead_iff h level o).1 ha
   exact absurd ((sort_iff13 h o).2 ⟨a,b⟩) hn
theorem sort_yes13 (h:List Ev) (o:List Int) (hn:(o.mergeSort fun x y=>decide (x≤y))=nodeL h):o.Nodup∧∀ x∈nodeL h,x∈o:=by
 have pm:(nodeL h).Perm o:=hn ▸ List.mergeSort_perm o _
 exact ⟨pm.nodup_iff.1 (node_nodup13 h),fun x hx=>pm.mem_iff.1 hx⟩
def back13 (o:List Int) (s:Stp):Bool:=decide (oI (plN o s.2.1)≤oI (plN o s.1))
theorem ahead_of13 (h:List Ev) (level:Int) (o:List Int) (hn:(o.mergeSort fun x y=>decide (x≤y))=nodeL h):aheadB h level o=!(stepsL level (edgesL h)).any (back13 o):=by
 obtain ⟨a,b⟩:=(sort_iff13 h o).1 hn
 apply Bool.eq_iff_iff.2
 rw [ahead_iff,Bool.not_eq_true',List.any_eq_false]
 constructor
 ·rintro ⟨_,_,c⟩ s hs e
  unfold back13 at e
  rw [decide_eq_true_eq] at e
  have:=c s hs
  omega
 ·intro c
  refine ⟨a,b,fun s hs=>?_⟩
  have:=c s hs
  unfold back13 at this
  rw [decide_eq_true_eq] at this
  omega
end Go.Proofs.YtdlcimfifkhllaaGreat
namespace Go.Proofs.YtdlcimfifkhllaaGreat
set_option maxRecDepth 100000
open Go.RowKit Go.Maps
set_option linter.unusedVariables false
theorem grown_below8 {a b:World} (x:Option Nat) (h:Below a.heap.size a b):a.grownBy b x:=⟨h.os,h.tape,h.output,h.size,fun i hi _=>h.block i hi⟩
theorem law8i:Keyed Tryz.prog 3:=int_keyed Tryz.underlying3
theorem law8s:Keyed Tryz.prog 9:=string_keyed Tryz.underlying9
theorem zero8i (w:World):(zeroValue 3).run Tryz.prog w=.ok (.int .i64 0) w:=by kernel_rfl
abbrev I64 (t:Int):Prop:=-9223372036854775808≤t∧t≤9223372036854775807
theorem key8i {t:Int} (ht:I64 t):keyOf Tryz.prog 3 (.int .i64 t)=some (.int .i64 t):=keyOf_int_mk Tryz.underlying3 (WalkArith.wf_i64 ht)
theorem key8s {t:List UInt8} (ht:t.length≤9223372036854775807):keyOf Tryz.prog 9 (.string ⟨t.toArray⟩)=some (.string t):=by
 have:=Go.WideMaps.keyOf_string_mk (P:=Tryz.prog) (k:=9) (s:=⟨t.toArray⟩) Tryz.underlying9 (by rw [ba_size];unfold maxLen;omega)
 simpa using this
def IMap (W:World) (b n:Nat) (f:Int→Option Int):Prop :=
 ∃ D:DataW Unit,W.ownsMap Tryz.prog 3 (plainElem Tryz.prog 3) b n D∧∀ t:Int,Maps.has D (.int .i64 t)=(f t).isSome∧∀ k,f t=some k→D.atKey (.int .i64 t) (.lit (.int .i64 0))=.lit (.int .i64 k)
def ISet (W:World) (b n:Nat) (p:Int→Bool):Prop :=
 ∃ D:DataW Unit,W.ownsMap Tryz.prog 3 unitElem b n D∧∀ t:Int,Maps.has D (.int .i64 t)=p t
def TSet (W:World) (b n:Nat) (p:List UInt8→Bool):Prop :=
 ∃ D:DataW Unit,W.ownsMap Tryz.prog 9 unitElem b n D∧∀ t:List UInt8,Maps.has D (.string t)=p t
section
variable {W W':World} {b n m B:Nat} {row:Option Nat}
theorem IMap.kept {f:Int→Option Int} (h:IMap W b n f) (hg:W.grownBy W' row) (hne:some b≠row):IMap W' b n f:=by
 obtain ⟨D,h1,h2⟩:=h;exact ⟨D,h1.kept hg hne,h2⟩
theorem ISet.kept {p:Int→Bool} (h:ISet W b n p) (hg:W.grownBy W' row) (hne:some b≠row):ISet W' b n p:=by
 obtain ⟨D,h1,h2⟩:=h;exact ⟨D,h1.kept hg hne,h2⟩
theorem TSet.kept {p:List UInt8→Bool} (h:TSet W b n p) (hg:W.grownBy W' row) (hne:some b≠row):TSet W' b n p:=by
 obtain ⟨D,h1,h2⟩:=h;exact ⟨D,h1.kept hg hne,h2⟩
theorem IMap.same {f:Int→Option Int} (h:IMap W b n f) (hb:W'.heap[b]?=W.heap[b]?):IMap W' b n f:=by
 obtain ⟨D,⟨es,clock,h1,h2⟩,h3⟩:=h;exact ⟨D,⟨es,clock,hb.trans h1,h2⟩,h3⟩
theorem ISet.same {p:Int→Bool} (h:ISet W b n p) (hb:W'.heap[b]?=W.heap[b]?):ISet W' b n p:=by
 obtain ⟨D,⟨es,clock,h1,h2⟩,h3⟩:=h;exact ⟨D,⟨es,clock,hb.trans h1,h2⟩,h3⟩
theorem TSet.same {p:List UInt8→Bool} (h:TSet W b n p) (hb:W'.heap[b]?=W.heap[b]?):TSet W' b n p:=by
 obtain ⟨D,⟨es,clock,h1,h2⟩,h3⟩:=h;exact ⟨D,⟨es,clock,hb.trans h1,h2⟩,h3⟩
theorem ISet.bel {p:Int→Bool} (h:ISet W b n p) (hb:Below B W W') (hlt:b < B):ISet W' b n p:=h.same (hb.block b hlt)
theorem IMap.mono {f:Int→Option Int} (h:IMap W b n f) (hn:n≤m):IMap W b m f:=by obtain ⟨D,h1,h2⟩:=h;exact ⟨D,h1.mono hn,h2⟩
theorem ISet.mono {p:Int→Bool} (h:ISet W b n p) (hn:n≤m):ISet W b m p:=by obtain ⟨D,h1,h2⟩:=h;exact ⟨D,h1.mono hn,h2⟩
theorem TSet.mono {p:List UInt8→Bool} (h:TSet W b n p) (hn:n≤m):TSet W b m p:=by obtain ⟨D,h1,h2⟩:=h;exact ⟨D,h1.mono hn,h2⟩
theorem IMap.made (w:World):IMap (w.alloc (.map #[] 0)) w.heap.size 0 (fun _=>none):=⟨.map [],World.ownsMap_made w _ _ _,fun t=>⟨rfl,fun k h=>by cases h⟩⟩
theorem ISet.made (w:World):ISet (w.alloc (.map #[] 0)) w.heap.size 0 (fun _=>false):=⟨.map [],World.ownsMap_made w _ _ _,fun t=>rfl⟩
theorem TSet.made (w:World):TSet (w.alloc (.map #[] 0)) w.heap.size 0 (fun _=>false):=⟨.map [],World.ownsMap_made w _ _ _,fun t=>rfl⟩
def updI (f:Int→Option Int) (t k:Int):Int→Option Int:=fun u=>if u=t then some k else f u
theorem IMap.put {f:Int→Option Int} {D:DataW Unit} (hd:∀ t:Int,Maps.has D (.int .i64 t)=(f t).isSome∧∀ k,f t=some k→D.atKey (.int .i64 t) (.lit (.int .i64 0))=.lit (.int .i64 k)) (hm:IsMap D) (t k:Int)
 (h:W.ownsMap Tryz.prog 3 (plainElem Tryz.prog 3) b n (D.put (.int .i64 t) (.lit (.int .i64 k)))):IMap W b n (updI f t k):=by
 refine ⟨_,h,fun u=>?_⟩
 unfold updI
 by_cases hu:u=t
 ·subst hu
  rw [if_pos rfl]
  refine ⟨?_,fun c hc=>?_⟩
  ·rw [has_put_same hm (show WideAt.IsKeyLit (.int .i64 u) from trivial)];rfl
  ·rw [atKey_put_same hm (show WideAt.IsKeyLit (.int .i64 u) from trivial)]
   simp at hc
   rw [hc]
 ·rw [if_neg hu]
  have hne:(Lit.int .i64 u)≠Lit.int .i64 t:=fun h=>hu (by cases h;rfl)
  refine ⟨?_,fun c hc=>?_⟩
  ·rw [has_put_other hne];exact (hd u).1
  ·rw [atKey_put_other hne];exact (hd u).2 c hc
theorem ISet.put {p:Int→Bool} {D:DataW Unit} (hd:∀ t:Int,Maps.has D (.int .i64 t)=p t) (hm:IsMap D) (t:Int) (h:W.ownsMap Tryz.prog 3 unitElem b n (D.put (.int .i64 t) (.agg []))):ISet W b n (fun u=>p u || decide (t=u)):=by
 refine ⟨_,h,fun u=>?_⟩
 by_cases hu:u=t
 ·subst hu
  rw [has_put_same hm (show WideAt.IsKeyLit (.int .i64 u) from trivial)]
  simp
 ·have hne:(Lit.int .i64 u)≠Lit.int .i64 t:=fun h=>hu (by cases h;rfl)
  rw [has_put_other hne,hd u]
  show p u=(p u || decide (t=u))
  rw [decide_eq_false (fun e:t=u=>hu e.symm),Bool.or_false]
theorem TSet.put {p:List UInt8→Bool} {D:DataW Unit} (hd:∀ t:List UInt8,Maps.has D (.string t)=p t) (hm:IsMap D) (t:List UInt8) (h:W.ownsMap Tryz.prog 9 unitElem b n (D.put (.string t) (.agg []))):TSet W b n (fun u=>p u || decide (t=u)):=by
 refine ⟨_,h,fun u=>?_⟩
 by_cases hu:u=t
 ·subst hu
  rw [has_put_same hm (show WideAt.IsKeyLit (.string u) from trivial)]
  simp
 ·have hne:(Lit.string u)≠Lit.string t:=fun h=>hu (by cases h;rfl)
  rw [has_put_other hne,hd u]
  show p u=(p u || decide (t=u))
  rw [decide_eq_false (fun e:t=u=>hu e.symm),Bool.or_false]
end
end Go.Proofs.YtdlcimfifkhllaaGreat
namespace Go.Proofs.YtdlcimfifkhllaaGreat
set_option maxRecDepth 100000
open Go.RowKit Go.Maps
set_option linter.unusedVariables false
def rawE (v:Value):Option (DataW Value × List MemPlace):=some (.held v,[])
def VMap (W:World) (b n:Nat) (f:Int→Option Value):Prop :=
 ∃ D:DataW Value,W.ownsMap Tryz.prog 3 rawE b n D∧∀ t:Int,Maps.has D (.int .i64 t)=(f t).isSome∧∀ z,D.atKey (.int .i64 t) z=match f t with
   | none=>z
   | some v=>.held v
def updV (f:Int→Option Value) (t:Int) (v:Value):Int→Option Value:=fun u=>if u=t then some v else f u
section
variable {W W':World} {b n m B:Nat} {row:Option Nat} {f:Int→Option Value}
theorem VMap.same (h:VMap W b n f) (hb:W'.heap[b]?=W.heap[b]?):VMap W' b n f:=by
 obtain ⟨D,⟨es,clock,h1,h2⟩,h3⟩:=h;exact ⟨D,⟨es,clock,hb.trans h1,h2⟩,h3⟩
theorem VMap.lt (h:VMap W b n f):b < W.heap.size:=by obtain ⟨D,h1,h2⟩:=h;exact h1.lt
theorem VMap.kept (h:VMap W b n f) (hg:W.grownBy W' row) (hne:some b≠row):VMap W' b n f:=h.same (hg.block b h.lt hne)
theorem VMap.bel (h:VMap W b n f) (hb:Below B W W') (hlt:b < B):VMap W' b n f:=h.same (hb.block b hlt)
theorem VMap.made (w:World):VMap (w.alloc (.map #[] 0)) w.heap.size 0 (fun _=>none):=⟨.map [],World.ownsMap_made w _ _ _,fun t=>⟨rfl,fun z=>rfl⟩⟩
theorem VMap.put {D:DataW Value} (hd:∀ t:Int,Maps.has D (.int .i64 t)=(f t).isSome∧∀ z,D.atKey (.int .i64 t) z=match f t with
 | none=>z
 | some v=>.held v) (hm:IsMap D) (t:Int) (v:Value) (h:W.ownsMap Tryz.prog 3 rawE b n (D.put (.int .i64 t) (.held v))):VMap W b n (updV f t v):=by
 refine ⟨_,h,fun u=>?_⟩
 unfold updV
 by_cases hu:u=t
 ·subst hu
  rw [if_pos rfl]
  refine ⟨?_,fun z=>?_⟩
  ·rw [has_put_same hm (show WideAt.IsKeyLit (.int .i64 u) from trivial)];rfl
  ·rw [atKey_put_same hm (show WideAt.IsKeyLit (.int .i64 u) from trivial)]
 ·rw [if_neg hu]
  have hne:(Lit.int .i64 u)≠Lit.int .i64 t:=fun h=>hu (by cases h;rfl)
  refine ⟨?_,fun z=>?_⟩
  ·rw [has_put_other hne];exact (hd u).1
  ·rw [atKey_put_other hne];exact (hd u).2 z
end
section
variable {W:World} {b n:Nat} {f:Int→Option Value}
end
/-! at the operation -/
section
variable (w:World) {ops:Array Oper} {rest:List Oper} {o:Oper} {a:Act} {Q:Exit→Act→World→Prop}
theorem wpl_look (hg:o.guard=none) (m x:Operand) (t:TypeId) (hop:o.op=Op.lookup t m x false) (e:TypeId) (ht:Tryz.prog.underlying t=some (.map 3 e)) {z:Value} (hz:(zeroValue e).run Tryz.prog w=.ok z w) (b n:Nat) (f:Int→Option Value)
 (hm:a.eval m=.map (some b)) (hM:VMap w b n f) (i:Int) (hi:I64 i) (hx:a.eval x=.int .i64 i) (v:Value) (hv:(f i).getD z=v) (hK:wpList Tryz.prog ops Q rest (a.put o.dst v) w):wpList Tryz.prog ops Q (o::rest) a w:=by
 refine wpList_plain hg fun K' hK'=>?_
 obtain ⟨D,hown,hd⟩:=hM
 obtain ⟨u,ps,hrun,hu⟩:=hown.lookup law8i ht hz (zd:=.held z) (zp:=[]) rfl (key8i hi)
 unfold Oper.wp
 simp [execOp,hop,hm,hx,hrun,Result.andThen]
 have e1:u=v:=by
  rw [(hd i).2] at hu
  rw [← hv]
  cases hf:f i with
  | none=>rw [hf] at hu;simp [rawE] at hu;simp [hu.1]
  | some y=>rw [hf] at hu;simp [rawE] at hu;simp [hu.1]
 rw [e1]
 exact hK' _ _ hK
theorem wpl_store (hg:o.guard=none) (m x y:Operand) (t:TypeId) (hop:o.op=Op.mapUpdate t m x y) (e:TypeId) (ht:Tryz.prog.underlying t=some (.map 3 e)) (b n:Nat) (f:Int→Option Value)
 (hm:a.eval m=.map (some b)) (hM:VMap w b n f) (hn:n < 9223372036854775807) (i:Int) (hi:I64 i) (hx:a.eval x=.int .i64 i) (v:Value) (hv:a.eval y=v)
 (hK:∀ w',VMap w' b (n+1) (updV f i v)→w.grownBy w' (some b)→wpList Tryz.prog ops Q rest (a.put o.dst undef) w'):wpList Tryz.prog ops Q (o::rest) a w:=by
 refine wpList_plain hg fun K' hK'=>?_
 obtain ⟨D,hown,hd⟩:=hM
 obtain ⟨w',hrun,r1,r2⟩:=hown.update law8i ht (by unfold maxLen;omega) (key8i hi) (val:=v) (d:=.held v) (ps:=[]) rfl
 unfold Oper.wp
 simp [execOp,hop,hm,hx,hv,hrun,Result.andThen]
 exact hK' _ _ (hK w' (VMap.put hd hown.isMap i v r1) r2)
end
end Go.Proofs.YtdlcimfifkhllaaGreat
namespace Go.Proofs.YtdlcimfifkhllaaGreat
set_option maxRecDepth 100000
open Go.RowKit Go.Shelf
set_option linter.unusedVariables false
abbrev ixV (h:List Ev) (i:Fin h.length):Array Value:=#[.int .i64 (i.val:Int),evW h[i.val]]
def KpE (n b:Nat) (W W':World):Prop:=Below n W W'∧W'.heap[b]?=W.heap[b]?
theorem kpE_t {n b:Nat} {A B C:World} (h:KpE n b A B) (k:KpE n b B C):KpE n b A C:=⟨h.1.trans k.1,k.2.trans h.2⟩
theorem kpE_b {n b:Nat} {w:World} (hn:n≤w.heap.size) (hb:b < w.heap.size) (W:World) (l:Nat) (o o':Obj) (hl:w.heap.size≤l) (h:W.heap[l]?=some o) (h1:o.isCells=false) (h2:o.isWalk=false):KpE n b W (W.putObj l o') :=
 ⟨belowK_b hn W l o o' hl h h1 h2,World.putObj_heap_other (by omega)⟩
theorem boxed_below7 {W W':World} {B:Nat} {t:TypeId} {v:Value} (h:Boxed W B t v) (b:Below W.heap.size W W'):Boxed W' B t v:=(b.block B h.lt).trans h
end Go.Proofs.YtdlcimfifkhllaaGreat
namespace Go.Proofs.YtdlcimfifkhllaaGreat
set_option maxRecDepth 100000
open Go.RowKit Go.Maps
set_option linter.unusedVariables false
attribute [local go_sem] ba_size
abbrev backF13 (b:Nat):Value:=.func (.func 31) #[] #[.pointer (some ⟨b,0,none⟩)]
set_option maxHeartbeats 2000000 in
theorem pback13_any (W:World) (b m n:Nat) (f:Int→Option Value) (B1:Boxed W b 61 (.map (some m))) (hV:VMap W m n f) (x y p q:Int) (ua:Option Addr) (un uc:Nat) (hIx:I64 x) (hIy:I64 y) (hp:(f x).getD (.int .i64 0)=.int .i64 p) (hq:(f y).getD (.int .i64 0)=.int .i64 q) :
 Calls Tryz.prog 31 #[.agg #[.int .i64 x,.int .i64 y,.slice ua un uc],.pointer (some ⟨b,0,none⟩)] W fun e W'=>e=.returned (.bool (decide (q≤p)))∧Below W.heap.size W W':=by
 have hM:=hV.kept (World.grownBy_alloc W (.cells #[.int .i64 x,.int .i64 y,.slice ua un uc] 63) none) (by simp)
 have X:=SBox.new W 63 #[.int .i64 x,.int .i64 y,.slice ua un uc]
 have s0:=X.cell 0 _ rfl
 have s1:=X.cell 1 _ rfl
 have c0:=(B1.alloc (.cells #[.int .i64 x,.int .i64 y,.slice ua un uc] 63)).cell
 have HB:=Lib.hid ((Below.refl W.heap.size W).alloc (Nat.le_refl _) (.cells #[.int .i64 x,.int .i64 y,.slice ua un uc] 63))
 obtain ⟨r,hr⟩:∃ r,decide (q≤p)=r:=⟨_,rfl⟩
 have HR:=Lib.hid hr
 have g1:decide (p ≥ q)=r:=hr
 rw [hr]
 clear hr X hV B1
 go_enter Tryz.func31,Tryz.ntmps31
 go_wp2_with (first
  | (at_lookup;refine wpl_look _ rfl _ _ 61 rfl 3 Tryz.underlying61 (zero8i _) m n f rfl hM x hIx rfl _ hp ?_)
  | (at_lookup;refine wpl_look _ rfl _ _ 61 rfl 3 Tryz.underlying61 (zero8i _) m n f rfl hM y hIy rfl _ hq ?_))
 go_ret
 exact ⟨rfl,HB.out⟩
def bk13 (pl:Int→Int) (L:List Stp) (j:Nat):Bool:=decide (pl (L.getD j (0,0,[])).2.1≤pl (L.getD j (0,0,[])).1)
set_option maxHeartbeats 2000000 in
theorem pidx13_any (L:List Stp) (vs:Value) (W:World) (hS:IsSts W vs L) (b m n:Nat) (f:Int→Option Value) (B1:Boxed W b 61 (.map (some m))) (hV:VMap W m n f) (pl:Int→Int)
 (hpl:∀ s∈L,I64 s.1∧I64 s.2.1∧(f s.1).getD (.int .i64 0)=.int .i64 (pl s.1)∧(f s.2.1).getD (.int .i64 0)=.int .i64 (pl s.2.1)) :
 Calls Tryz.prog 59 #[vs,backF13 b] W fun e W'=>e=.returned (.int .i64 (oI (fi (bk13 pl L) L.length)))∧Below W.heap.size W W':=by
 obtain ⟨a,cap,rfl,h1,h2,h3,HC⟩:=hS.reads
 have C:=Lib.hid (fun V (hV':Below W.heap.size W V)=>pback13_any V b m n f (boxed_below7 B1 hV') (hV.bel hV' hV.lt))
 have HP:=Lib.hid hpl
 obtain ⟨nn,hn⟩:∃ n,L.length=n:=⟨_,rfl⟩
 have HN:=Lib.hid hn
 rw [hn] at h1 h3 ⊢
 clear hn hS B1 hV hpl
 go_enter Tryz.func59,Tryz.ntmps59
 go_wp2_with fail
 go_loopw [8] (fun i wr=>∃ k:Nat,k≤nn∧i=.int .i64 k∧Hid (∀ j,j < k→bk13 pl L j=false)∧Below W.heap.size W wr) (fun i _=>nn - (intOf i).toNat)
 case atStart=>exact ⟨0,Nat.zero_le _,rfl,(fun j hj=>absurd hj (by omega)),Below.refl _ _⟩
 case round =>
  obtain ⟨k,hk,rfl,HF,hB⟩:=hrel
  by_cases hlt:k < nn
  ·have j0:(k:Int) < (nn:Int):=by omega
   have hkl:k < L.length:=by have:=HN.out;omega
   obtain ⟨bb,off,rfl,u,hE,HQ⟩:=HC.out k hkl
   obtain ⟨c0,c1,c2⟩:=HQ wr hB
   obtain ⟨ua,uc,rfl,_⟩:=hE.some_at
   obtain ⟨i1,i2,i3,i4⟩:=HP.out L[k] (List.getElem_mem hkl)
   have D:=C.out wr hB _ _ _ _ ua L[k].2.2.length uc i1 i2 i3 i4
   have HI:Hid (bk13 pl L k=decide (pl L[k].2.1≤pl L[k].1)):=by show _=_;unfold bk13;rw [getD_at L _ k hkl]
   obtain ⟨bl,hbl⟩:∃ bl,decide (pl L[k].2.1≤pl L[k].1)=bl:=⟨_,rfl⟩
   rw [hbl] at D HI
   obtain ⟨x,hx⟩:∃ x,L[k].1=x:=⟨_,rfl⟩
   obtain ⟨y,hy⟩:∃ x,L[k].2.1=x:=⟨_,rfl⟩
   obtain ⟨un,hun⟩:∃ x,L[k].2.2.length=x:=⟨_,rfl⟩
   rw [hx] at c0 D
   rw [hy] at c1 D
   rw [hun] at c2 D
   clear hbl hx hy hun i1 i2 i3 i4 hE HQ
   cases bl with
   | true =>
     have HE:Hid (fi (bk13 pl L) nn=some k):=(fi_some _ _ _).2 ⟨hlt,HI.out,HF.out⟩
     go_wp2_with fail
     refine D.mono ?_
     rintro e1 w1 ⟨rfl,b1⟩
     go_wp2_with fail
     go_ret
     refine ⟨?_,bel_trans hB b1⟩
     rw [HE.out]
     rfl
   | false =>
     go_wp2_with fail
     refine D.mono ?_
     rintro e1 w1 ⟨rfl,b1⟩
     go_wp2_with fail
     refine ⟨⟨k+1,by omega,by first | go_num | simp,?_,bel_trans hB b1⟩,by simp [intOf];omega⟩
     intro j hj
     rcases Nat.lt_succ_iff_lt_or_eq.1 hj with h' | rfl
     ·exact HF.out j h'
     ·exact HI.out
  ·obtain rfl:k=nn:=by omega
   have jq:¬ (k:Int) < (k:Int):=by omega
   have HE:Hid (fi (bk13 pl L) k=none):=(fi_none _ _).2 HF.out
   go_wp2_with fail
   go_ret
   refine ⟨?_,hB⟩
   rw [HE.out]
   rfl
theorem bk_any13 (pl:Int→Int) (L:List Stp):decide (0≤oI (fi (bk13 pl L) L.length))=L.any (fun s=>decide (pl s.2.1≤pl s.1)):=by
 apply Bool.eq_iff_iff.2
 rw [decide_eq_true_eq,List.any_eq_true]
 constructor
 ·intro h
  cases hf:fi (bk13 pl L) L.length with
  | none=>rw [hf] at h;exact absurd h (by decide)
  | some k =>
    obtain ⟨hk,hb,_⟩:=(fi_some _ _ _).1 hf
    unfold bk13 at hb
    rw [getD_at L _ k hk] at hb
    exact ⟨L[k],List.getElem_mem hk,hb⟩
 ·rintro ⟨s,hs,hb⟩
  obtain ⟨k,hk,rfl⟩:=List.getElem_of_mem hs
  cases hf:fi (bk13 pl L) L.length with
  | none =>
    have:=(fi_none _ _).1 hf k hk
    unfold bk13 at this
    rw [getD_at L _ k hk,hb] at this
    cases this
  | some j=>simp [oI]
theorem pcontains13_any (L:List Stp) (vs:Value) (W:World) (hS:IsSts W vs L) (b m n:Nat) (f:Int→Option Value) (B1:Boxed W b 61 (.map (some m))) (hV:VMap W m n f) (pl:Int→Int)
 (hpl:∀ s∈L,I64 s.1∧I64 s.2.1∧(f s.1).getD (.int .i64 0)=.int .i64 (pl s.1)∧(f s.2.1).getD (.int .i64 0)=.int .i64 (pl s.2.1)) :
 Calls Tryz.prog 32 #[vs,backF13 b] W fun e W'=>e=.returned (.bool (L.any (fun s=>decide (pl s.2.1≤pl s.1))))∧Below W.heap.size W W':=by
 have C:=pidx13_any L vs W hS b m n f B1 hV pl hpl
 have HA:=Lib.hid (bk_any13 pl L)
 obtain ⟨a,cap,rfl,_⟩:=hS.reads
 obtain ⟨z,hz⟩:∃ z,oI (fi (bk13 pl L) L.length)=z:=⟨_,rfl⟩
 rw [hz] at C HA
 obtain ⟨r,hr⟩:∃ r,L.any (fun s=>decide (pl s.2.1≤pl s.1))=r:=⟨_,rfl⟩
 rw [hr] at HA ⊢
 have g1:decide (z ≥ 0)=r:=HA.out
 obtain ⟨nn,hn⟩:∃ n,L.length=n:=⟨_,rfl⟩
 rw [hn] at C ⊢
 clear hn hz hr hS B1 hV hpl
 go_enter Tryz.func32,Tryz.ntmps32
 go_wp2_with fail
 refine C.mono ?_
 rintro e1 w1 ⟨rfl,b1⟩
 go_wp2_with fail
 go_ret
 exact ⟨rfl,b1⟩
end Go.Proofs.YtdlcimfifkhllaaGreat
namespace Go.Proofs.YtdlcimfifkhllaaGreat
set_option maxRecDepth 100000
open Go.RowKit Go.Shelf
set_option linter.unusedVariables false
theorem boxed_bel {W W':World} {B b t:Nat} {v:Value} (h:Boxed W b t v) (hb:Below B W W') (hlt:b < B):Boxed W' b t v:=(hb.block b hlt).trans h
theorem sbox_bel {W W':World} {B b t:Nat} {c:Array Value} (h:SBox W b t c) (hb:Below B W W') (hlt:b < B):SBox W' b t c:=(hb.block b hlt).trans h
theorem ownFrom_of_below {β:Type} {B:Nat} {I:β→World→Prop} (hs:∀ s W,I s W→B≤W.heap.size) (h:∀ s W W',I s W→Below B W W'→I s W'):OwnFrom B I :=
 fun s W W' row hi hg hr=>h s W W' hi ((Below.refl B W).grown hg (hs s W hi) (fun k e=>(hr k e).1))
theorem ownFrom_false {β:Type} (B:Nat):OwnFrom B (fun (_:β) (_:World)=>False):=fun _ _ _ _ h _ _=>h
end Go.Proofs.YtdlcimfifkhllaaGreat
namespace Go.Proofs.YtdlcimfifkhllaaGreat
set_option maxRecDepth 100000
open Go.RowKit Go.Shelf Go.Maps
set_option linter.unusedVariables false
theorem owns_turn {W W':World} {row:Option Nat} {B e k n:Nat} {v:Value} {xs:List Value} (h:W.ownsRow B e k v n xs) (hg:W.grownBy W' row) (hr:∀ r,row=some r→∃ o:Obj,W.heap[r]?=some o∧o.isCells=false):W'.ownsRow B e k v n xs:=by
 refine h.kept hg ?_
 rcases h.2 with ⟨rfl,_⟩ | ⟨g,cap,cur,rfl,_,hgb,_⟩
 ·exact .inl rfl
 ·refine .inr (fun e=>?_)
  obtain ⟨o,ho,hc⟩:=hr g (by rw [← e];rfl)
  rw [hgb] at ho
  cases ho
  cases hc
theorem keeps_row {W W':World} {B e k n:Nat} {v:Value} {xs:List Value} (h:W.ownsRow B e k v n xs) (hg:W.grownBy W' v.ownBlock):KeepsOthers W W' :=
 KeepsOthers.of_grownBy hg (fun j o ej hj=>by
  rcases h.2 with ⟨rfl,_⟩ | ⟨g,cap,cur,rfl,_,hgb,_⟩
  ·simp [Value.ownBlock] at ej
  ·obtain rfl:g=j:=by simpa [Value.ownBlock] using ej
   rw [hgb] at hj
   cases hj
   rfl)
end Go.Proofs.YtdlcimfifkhllaaGreat
namespace Go.Proofs.YtdlcimfifkhllaaGreat
set_option maxRecDepth 100000
open Go.RowKit Go.Maps
set_option linter.unusedVariables false
attribute [local go_sem] ba_size
def Grew (w:World) (B t k:Nat) (r:Value) (n:Nat) (xs:List Value) (e:Ending) (w':World):Prop :=
 ∃ r',e=.returned r'∧w'.ownsRow B t k r' n xs∧w.grownBy w' r.ownBlock∧(r'.ownBlock=r.ownBlock∨∃ g,r'.ownBlock=some g∧w.heap.size≤g)
set_option maxHeartbeats 1000000 in
theorem pbhE_any (r:Value) (n:Nat) (xs:List Value) (x0 x1 x2 x3 x4:Int) (B:Nat) (w:World) (hrow:w.ownsRow B 71 5 r n xs) (hB:B≤w.heap.size) (hn:n≤10000000) :
 Calls Tryz.prog 63 #[r,.agg #[.int .i64 x0,.int .i64 x1,.int .i64 x2,.int .i64 x3,.int .i64 x4]] w fun e w'=>Grew w B 71 5 r (n+1) (xs++[.int .i64 x0,.int .i64 x1,.int .i64 x2,.int .i64 x3,.int .i64 x4]) e w':=by
 obtain ⟨i0,hi,hz0,hz1,hz2⟩:=info_parts ed_info
 have X0:=SBox.new w 71 #[.int .i64 x0,.int .i64 x1,.int .i64 x2,.int .i64 x3,.int .i64 x4]
 have d0:=X0.cell 0 _ rfl
 have d1:=X0.cell 1 _ rfl
 have d2:=X0.cell 2 _ rfl
 have d3:=X0.cell 3 _ rfl
 have d4:=X0.cell 4 _ rfl
 go_enter Tryz.func63,Tryz.ntmps63
 go_wp2_with (at_builtin;refine wpList_append_own_at _ rfl _ _ 26 rfl B 71 i0 (.agg #[.int .i64 0,.int .i64 0,.int .i64 0,.int .i64 0,.int .i64 0]) 5 40 Tryz.underlying26 hi hz0 hz1 hz2 rfl (by decide) r _ _ rfl ((hrow.alloc _).alloc _) ⟨w.heap.size+1,0,none⟩ 1 1 [.int .i64 x0,.int .i64 x1,.int .i64 x2,.int .i64 x3,.int .i64 x4] rfl rfl ?a1 ?a2 ?a3 ?a4 ?a5 ?_)
 case a1=>intro j u hj;match j,hj with
  | 0,hj=>simp at hj;subst hj;first | (simp [Addr.add];done) | exact cell_new7 (by simp) rfl
  | 1,hj=>simp at hj;subst hj;first | (simp [Addr.add];done) | exact cell_new7 (by simp) rfl
  | 2,hj=>simp at hj;subst hj;first | (simp [Addr.add];done) | exact cell_new7 (by simp) rfl
  | 3,hj=>simp at hj;subst hj;first | (simp [Addr.add];done) | exact cell_new7 (by simp) rfl
  | 4,hj=>simp at hj;subst hj;first | (simp [Addr.add];done) | exact cell_new7 (by simp) rfl
 case a2=>intro u hu;simp at hu;rcases hu with rfl | rfl | rfl | rfl | rfl<;>rfl
 case a3=>unfold maxLen;omega
 case a4=>omega
 case a5=>simp;omega
 intro r3 w3 hown3 hg3 _ hat3
 go_wp2_with fail
 go_ret
 exact ⟨r3,rfl,hown3,((World.grownBy_alloc _ _ _).trans (World.grownBy_alloc _ _ _)).trans hg3,hat3.imp id (fun e=>⟨_,e,by omega⟩)⟩
theorem int_info10:(Tryz.prog.info? 3).map (fun i=>(i.zero,i.size,i.bytes))=some (some (.int .i64 0),1,8):=by kernel_rfl
set_option maxHeartbeats 1000000 in
theorem pbhI_any (r:Value) (n:Nat) (xs:List Value) (x:Int) (B:Nat) (w:World) (hrow:w.ownsRow B 3 1 r n xs) (hB:B≤w.heap.size) (hn:n≤10000000) :
 Calls Tryz.prog 58 #[r,.int .i64 x] w fun e w'=>Grew w B 3 1 r (n+1) (xs++[.int .i64 x]) e w':=by
 obtain ⟨i0,hi,hz0,hz1,hz2⟩:=info_parts int_info10
 go_enter Tryz.func58,Tryz.ntmps58
 go_wp2_with (at_builtin;refine wpList_append_own_at _ rfl _ _ 23 rfl B 3 i0 (.int .i64 0) 1 8 Tryz.underlying23 hi hz0 hz1 hz2 rfl (by decide) r _ _ rfl (hrow.alloc _) ⟨w.heap.size,0,none⟩ 1 1 [.int .i64 x] rfl rfl ?a1 ?a2 ?a3 ?a4 ?a5 ?_)
 case a1=>intro j u hj;match j,hj with
  | 0,hj=>simp at hj;subst hj;first | (simp [Addr.add];done) | exact cell_new7 (by simp) rfl
 case a2=>intro u hu;simp at hu;subst hu;rfl
 case a3=>unfold maxLen;omega
 case a4=>omega
 case a5=>simp;omega
 intro r3 w3 hown3 hg3 _ hat3
 go_wp2_with fail
 go_ret
 exact ⟨r3,rfl,hown3,(World.grownBy_alloc _ _ _).trans hg3,hat3.imp id (fun e=>⟨_,e,by omega⟩)⟩
set_option maxHeartbeats 1000000 in
theorem pbhS_any (r:Value) (n:Nat) (xs:List Value) (a b:Int) (ad:Option Addr) (m c:Nat) (B:Nat) (w:World) (hrow:w.ownsRow B 63 3 r n xs) (hB:B≤w.heap.size) (hn:n≤10000000) :
 Calls Tryz.prog 90 #[r,.agg #[.int .i64 a,.int .i64 b,.slice ad m c]] w fun e w'=>Grew w B 63 3 r (n+1) (xs++[.int .i64 a,.int .i64 b,.slice ad m c]) e w':=by
 obtain ⟨i0,hi,hz0,hz1,hz2⟩:=info_parts st_info
 have X0:=SBox.new w 63 #[.int .i64 a,.int .i64 b,.slice ad m c]
 have d0:=X0.cell 0 _ rfl
 have d1:=X0.cell 1 _ rfl
 have d2:=X0.cell 2 _ rfl
 go_enter Tryz.func90,Tryz.ntmps90
 go_wp2_with (at_builtin;refine wpList_append_own_at _ rfl _ _ 66 rfl B 63 i0 (.agg #[.int .i64 0,.int .i64 0,.slice none 0 0]) 3 40 Tryz.underlying66 hi hz0 hz1 hz2 rfl (by decide) r _ _ rfl ((hrow.alloc _).alloc _) ⟨w.heap.size+1,0,none⟩ 1 1 [.int .i64 a,.int .i64 b,.slice ad m c] rfl rfl ?a1 ?a2 ?a3 ?a4 ?a5 ?_)
 case a1=>intro j u hj;match j,hj with
  | 0,hj=>simp at hj;subst hj;first | (simp [Addr.add];done) | exact cell_new7 (by simp) rfl
  | 1,hj=>simp at hj;subst hj;first | (simp [Addr.add];done) | exact cell_new7 (by simp) rfl
  | 2,hj=>simp at hj;subst hj;first | (simp [Addr.add];done) | exact cell_new7 (by simp) rfl
 case a2=>intro u hu;simp at hu;rcases hu with rfl | rfl | rfl<;>rfl
 case a3=>unfold maxLen;omega
 case a4=>omega
 case a5=>simp;omega
 intro r3 w3 hown3 hg3 _ hat3
 go_wp2_with fail
 go_ret
 exact ⟨r3,rfl,hown3,((World.grownBy_alloc _ _ _).trans (World.grownBy_alloc _ _ _)).trans hg3,hat3.imp id (fun e=>⟨_,e,by omega⟩)⟩
def OneR (w:World) (a b:Int) (es:List Ed) (e:Ending) (w':World):Prop :=
 ∃ ad c,e=.returned (.agg #[.int .i64 a,.int .i64 b,.slice ad es.length c])∧Below w.heap.size w w'∧w'.ownsRow w.heap.size 71 5 (.slice ad es.length c) es.length (recV edV es)
theorem own_shape {W:World} {B e k n:Nat} {v:Value} {xs:List Value} (h:W.ownsRow B e k v n xs):∃ ad c,v=.slice ad n c:=by
 rcases h.2 with ⟨rfl,rfl⟩ | ⟨g,cap,cur,rfl,_⟩
 ·exact ⟨none,0,rfl⟩
 ·exact ⟨_,_,rfl⟩
theorem own_far {W:World} {B e k n:Nat} {v:Value} {xs:List Value} (h:W.ownsRow B e k v n xs):∀ g,v.ownBlock=some g→B≤g:=fun g hg=>(h.lt g hg).1
theorem owns_set3 {W:World} {B e k n p:Nat} {v:Value} {xs:List Value} (h:W.ownsRow B e k v n xs) (t:Nat) (hne:v.ownBlock≠some p) (a b c:Value):(((W.setCell ⟨p,0,none⟩ a).setCell ⟨p,1,none⟩ b).setCell ⟨p,2,none⟩ c).ownsRow B e k v n xs :=
 owns_keep7 (g:=p) (j:=2) (owns_keep7 (g:=p) (j:=1) (owns_keep7 (g:=p) (j:=0) h a (fun e=>hne e.symm)) b (fun e=>hne e.symm)) c (fun e=>hne e.symm)
set_option maxHeartbeats 2000000 in
theorem palone_any (x0 x1 x2 x3 x4:Int) (w:World) :
 Calls Tryz.prog 91 #[.agg #[.int .i64 x0,.int .i64 x1,.int .i64 x2,.int .i64 x3,.int .i64 x4]] w fun e w'=>OneR w x1 x2 [(x0,x1,x2,x3,x4)] e w':=by
 have Xx:=(SBox.new w 71 #[.int .i64 x0,.int .i64 x1,.int .i64 x2,.int .i64 x3,.int .i64 x4]).alloc (.cells #[.int .i64 0,.int .i64 0,.slice none 0 0] 63)
 have Y:=SBox.new (w.alloc (.cells #[.int .i64 x0,.int .i64 x1,.int .i64 x2,.int .i64 x3,.int .i64 x4] 71)) 63 #[.int .i64 0,.int .i64 0,.slice none 0 0]
 simp only [World.size_alloc] at Xx Y
 have B0:Below w.heap.size w ((w.alloc (.cells #[.int .i64 x0,.int .i64 x1,.int .i64 x2,.int .i64 x3,.int .i64 x4] 71)).alloc (.cells #[.int .i64 0,.int .i64 0,.slice none 0 0] 63)):=((Below.refl _ w).alloc (Nat.le_refl _) _).alloc (by simp) _
 have S0:((w.alloc (.cells #[.int .i64 x0,.int .i64 x1,.int .i64 x2,.int .i64 x3,.int .i64 x4] 71)).alloc (.cells #[.int .i64 0,.int .i64 0,.slice none 0 0] 63)).heap.size=w.heap.size+1+1:=by simp
 go_enter Tryz.func91,Tryz.ntmps91
 go_wp2_with fail
 refine wp_region_any (by kernel_rfl) ?_
 change wpAny _ _ _ _ _ _ _ (World.drew _)
 generalize hwd:World.drew _=wd
 have Bd:Below w.heap.size w wd:=by rw [← hwd];exact B0.drew
 have Sd:wd.heap.size=w.heap.size+1+1:=by rw [← hwd];exact S0
 have Dx:SBox wd (w.heap.size) 71 #[.int .i64 x0,.int .i64 x1,.int .i64 x2,.int .i64 x3,.int .i64 x4]:=by rw [← hwd];exact Xx
 have DY:SBox wd (w.heap.size+1) 63 #[.int .i64 0,.int .i64 0,.slice none 0 0]:=by rw [← hwd];exact Y
 clear hwd B0 S0 Xx Y
 have dx0:=Dx.cell 0 _ rfl
 have dx1:=Dx.cell 1 _ rfl
 have dx2:=Dx.cell 2 _ rfl
 have dx3:=Dx.cell 3 _ rfl
 have dx4:=Dx.cell 4 _ rfl
 refine any_of_C (C:=fun V=>V.cell? ⟨w.heap.size,0,none⟩=some (.int .i64 x0)∧V.cell? ⟨w.heap.size,1,none⟩=some (.int .i64 x1)∧V.cell? ⟨w.heap.size,2,none⟩=some (.int .i64 x2)∧V.cell? ⟨w.heap.size,3,none⟩=some (.int .i64 x3)∧V.cell? ⟨w.heap.size,4,none⟩=some (.int .i64 x4)) 7 _ _ _ _ ?_
 refine takeC (i:=0) (v:=.pointer (some ⟨w.heap.size,1,none⟩)) rfl (by kernel_rfl) (by kernel_rfl) (by kernel_rfl) (by kernel_rfl) (by kernel_rfl) (fun _ _ _ h=>h) (Or.inl ⟨by kernel_rfl,fun V hV=>by obtain ⟨r0,r1,r2,r3,r4⟩:=hV;go_simp⟩) ?_
 refine takeC (i:=1) (v:=.int .i64 x1) rfl (by kernel_rfl) (by kernel_rfl) (by kernel_rfl) (by kernel_rfl) (by kernel_rfl) (fun _ _ _ h=>h) (Or.inl ⟨by kernel_rfl,fun V hV=>by obtain ⟨r0,r1,r2,r3,r4⟩:=hV;go_simp⟩) ?_
 refine takeC (i:=2) (v:=.pointer (some ⟨w.heap.size,2,none⟩)) rfl (by kernel_rfl) (by kernel_rfl) (by kernel_rfl) (by kernel_rfl) (by kernel_rfl) (fun _ _ _ h=>h) (Or.inl ⟨by kernel_rfl,fun V hV=>by obtain ⟨r0,r1,r2,r3,r4⟩:=hV;go_simp⟩) ?_
 refine takeC (i:=3) (v:=.int .i64 x2) rfl (by kernel_rfl) (by kernel_rfl) (by kernel_rfl) (by kernel_rfl) (by kernel_rfl) (fun _ _ _ h=>h) (Or.inl ⟨by kernel_rfl,fun V hV=>by obtain ⟨r0,r1,r2,r3,r4⟩:=hV;go_simp⟩) ?_
 refine takeC (i:=4) (v:=.agg #[.int .i64 x0,.int .i64 x1,.int .i64 x2,.int .i64 x3,.int .i64 x4]) rfl (by kernel_rfl) (by kernel_rfl) (by kernel_rfl) (by kernel_rfl) (by kernel_rfl) (fun _ _ _ h=>h) (Or.inl ⟨by kernel_rfl,fun V hV=>by obtain ⟨r0,r1,r2,r3,r4⟩:=hV;go_simp⟩) ?_
 refine consC (i:=5) (by kernel_rfl) (by kernel_rfl) ⟨dx0,dx1,dx2,dx3,dx4⟩ rfl (fun K hK=>?_)
 go_wp2_with fail
 refine (pbhE_any (.slice none 0 0) 0 [] x0 x1 x2 x3 x4 w.heap.size _ (World.ownsRow_nil _ _ _ _) (by omega) (by omega)).mono ?_
 rintro e1 w1 ⟨v1,rfl,ho1,hg1,_⟩
 go_wp2_with fail
 have g1:wd.grownBy w1 none:=hg1
 have b1:Below wd.heap.size wd w1:=(Below.refl _ wd).grown g1 (Nat.le_refl _) (fun r e=>by cases e)
 obtain ⟨a1,c1,rfl⟩:=own_shape ho1
 have Ex:=Dx.below b1
 have EY:=DY.below b1
 have ex0:=Ex.cell 0 _ rfl
 have ex1:=Ex.cell 1 _ rfl
 have ex2:=Ex.cell 2 _ rfl
 have ex3:=Ex.cell 3 _ rfl
 have ex4:=Ex.cell 4 _ rfl
 have BW:Below w.heap.size w w1:=bel_trans Bd b1
 refine takeC (i:=6) (v:=.agg #[.int .i64 x1,.int .i64 x2,.slice a1 1 c1]) rfl (by kernel_rfl) (by kernel_rfl) (by kernel_rfl) (by kernel_rfl) (by kernel_rfl) (fun _ _ _ h=>h) (Or.inl ⟨by kernel_rfl,fun V hV=>by obtain ⟨r0,r1,r2,r3,r4⟩:=hV;go_simp⟩) ?_
 have k0:=EY.cell 0 _ rfl
 have k1:=EY.cell 1 _ rfl
 have k2:=EY.cell 2 _ rfl
 have m0:=EY.frozen 0
 have m1:=EY.frozen 1
 have m2:=EY.frozen 2
 refine lastC (by kernel_rfl) (by kernel_rfl) ⟨ex0,ex1,ex2,ex3,ex4⟩ (of_decide_eq_true (by kernel_rfl)) ?_
 refine any_seqI [7] [_] _ _ _ rfl (by kernel_rfl) ?_
 go_wp2_with fail
 generalize hW:World.setCell _ _ _=W
 have RW:SBox W (w.heap.size+1) 63 #[.int .i64 x1,.int .i64 x2,.slice a1 1 c1]:=by rw [← hW];exact SBox.put3 EY _ _ _
 have BZ:Below w.heap.size w W:=by rw [← hW];exact ((BW.setCell (p:=⟨w.heap.size+1,0,none⟩) (by first | (simp;done) | (simp;omega)) _).setCell (p:=⟨w.heap.size+1,1,none⟩) (by first | (simp;done) | (simp;omega)) _).setCell (p:=⟨w.heap.size+1,2,none⟩) (by first | (simp;done) | (simp;omega)) _
 have hRow:W.ownsRow w.heap.size 71 5 (.slice a1 1 c1) 1 (recV edV [(x0,x1,x2,x3,x4)]):=by
  rw [← hW]
  have hne:(Value.slice a1 1 c1).ownBlock≠some (w.heap.size+1):=fun e=>block_not_row EY (by decide) ho1 e.symm
  exact owns_set3 ho1 0 hne _ _ _
 exact bodyPost_ret (v:=.agg #[.int .i64 x1,.int .i64 x2,.slice a1 1 c1]) (results_row1 Tryz.results91 _ _ (w.heap.size+1) 63 _ (0,0) _ rfl RW Tryz.underlying63 rfl size_st) rfl ⟨_,_,rfl,BZ,hRow⟩
set_option maxHeartbeats 2000000 in
theorem pjoined_any (x0 x1 x2 x3 x4 y0 y1 y2 y3 y4:Int) (w:World) :
 Calls Tryz.prog 92 #[.agg #[.int .i64 x0,.int .i64 x1,.int .i64 x2,.int .i64 x3,.int .i64 x4],.agg #[.int .i64 y0,.int .i64 y1,.int .i64 y2,.int .i64 y3,.int .i64 y4]] w fun e w'=>OneR w x1 y2 [(x0,x1,x2,x3,x4),(y0,y1,y2,y3,y4)] e w':=by
 have Xx:=((SBox.new w 71 #[.int .i64 x0,.int .i64 x1,.int .i64 x2,.int .i64 x3,.int .i64 x4]).alloc (.cells #[.int .i64 y0,.int .i64 y1,.int .i64 y2,.int .i64 y3,.int .i64 y4] 71)).alloc (.cells #[.int .i64 0,.int .i64 0,.slice none 0 0] 63)
 have Xy:=(SBox.new (w.alloc (.cells #[.int .i64 x0,.int .i64 x1,.int .i64 x2,.int .i64 x3,.int .i64 x4] 71)) 71 #[.int .i64 y0,.int .i64 y1,.int .i64 y2,.int .i64 y3,.int .i64 y4]).alloc (.cells #[.int .i64 0,.int .i64 0,.slice none 0 0] 63)
 have Y:=SBox.new ((w.alloc (.cells #[.int .i64 x0,.int .i64 x1,.int .i64 x2,.int .i64 x3,.int .i64 x4] 71)).alloc (.cells #[.int .i64 y0,.int .i64 y1,.int .i64 y2,.int .i64 y3,.int .i64 y4] 71)) 63 #[.int .i64 0,.int .i64 0,.slice none 0 0]
 simp only [World.size_alloc] at Xx Xy Y
 have B0:Below w.heap.size w (((w.alloc (.cells #[.int .i64 x0,.int .i64 x1,.int .i64 x2,.int .i64 x3,.int .i64 x4] 71)).alloc (.cells #[.int .i64 y0,.int .i64 y1,.int .i64 y2,.int .i64 y3,.int .i64 y4] 71)).alloc (.cells #[.int .i64 0,.int .i64 0,.slice none 0 0] 63)):=(((Below.refl _ w).alloc (Nat.le_refl _) _).alloc (by simp) _).alloc (by simp;omega) _
 have S0:(((w.alloc (.cells #[.int .i64 x0,.int .i64 x1,.int .i64 x2,.int .i64 x3,.int .i64 x4] 71)).alloc (.cells #[.int .i64 y0,.int .i64 y1,.int .i64 y2,.int .i64 y3,.int .i64 y4] 71)).alloc (.cells #[.int .i64 0,.int .i64 0,.slice none 0 0] 63)).heap.size=w.heap.size+1+1+1:=by simp
 go_enter Tryz.func92,Tryz.ntmps92
 go_wp2_with fail
 refine wp_region_any (by kernel_rfl) ?_
 change wpAny _ _ _ _ _ _ _ (World.drew _)
 generalize hwd:World.drew _=wd
 have Bd:Below w.heap.size w wd:=by rw [← hwd];exact B0.drew
 have Sd:wd.heap.size=w.heap.size+1+1+1:=by rw [← hwd];exact S0
 have Dx:SBox wd (w.heap.size) 71 #[.int .i64 x0,.int .i64 x1,.int .i64 x2,.int .i64 x3,.int .i64 x4]:=by rw [← hwd];exact Xx
 have Dy:SBox wd (w.heap.size+1) 71 #[.int .i64 y0,.int .i64 y1,.int .i64 y2,.int .i64 y3,.int .i64 y4]:=by rw [← hwd];exact Xy
 have DY:SBox wd (w.heap.size+1+1) 63 #[.int .i64 0,.int .i64 0,.slice none 0 0]:=by rw [← hwd];exact Y
 clear hwd B0 S0 Xx Xy Y
 have dx0:=Dx.cell 0 _ rfl
 have dx1:=Dx.cell 1 _ rfl
 have dx2:=Dx.cell 2 _ rfl
 have dx3:=Dx.cell 3 _ rfl
 have dx4:=Dx.cell 4 _ rfl
 have dy0:=Dy.cell 0 _ rfl
 have dy1:=Dy.cell 1 _ rfl
 have dy2:=Dy.cell 2 _ rfl
 have dy3:=Dy.cell 3 _ rfl
 have dy4:=Dy.cell 4 _ rfl
 refine any_of_C (C:=fun V=>V.cell? ⟨w.heap.size,0,none⟩=some (.int .i64 x0)∧V.cell? ⟨w.heap.size,1,none⟩=some (.int .i64 x1)∧V.cell? ⟨w.heap.size,2,none⟩=some (.int .i64 x2)∧V.cell? ⟨w.heap.size,3,none⟩=some (.int .i64 x3)∧V.cell? ⟨w.heap.size,4,none⟩=some (.int .i64 x4)∧V.cell? ⟨w.heap.size+1,0,none⟩=some (.int .i64 y0)∧V.cell? ⟨w.heap.size+1,1,none⟩=some (.int .i64 y1)∧V.cell? ⟨w.heap.size+1,2,none⟩=some (.int .i64 y2)∧V.cell? ⟨w.heap.size+1,3,none⟩=some (.int .i64 y3)∧V.cell? ⟨w.heap.size+1,4,none⟩=some (.int .i64 y4)) 9 _ _ _ _ ?_
 refine takeC (i:=0) (v:=.pointer (some ⟨w.heap.size,1,none⟩)) rfl (by kernel_rfl) (by kernel_rfl) (by kernel_rfl) (by kernel_rfl) (by kernel_rfl) (fun _ _ _ h=>h) (Or.inl ⟨by kernel_rfl,fun V hV=>by obtain ⟨r0,r1,r2,r3,r4,r5,r6,r7,r8,r9⟩:=hV;go_simp⟩) ?_
 refine takeC (i:=1) (v:=.int .i64 x1) rfl (by kernel_rfl) (by kernel_rfl) (by kernel_rfl) (by kernel_rfl) (by kernel_rfl) (fun _ _ _ h=>h) (Or.inl ⟨by kernel_rfl,fun V hV=>by obtain ⟨r0,r1,r2,r3,r4,r5,r6,r7,r8,r9⟩:=hV;go_simp⟩) ?_
 refine takeC (i:=2) (v:=.pointer (some ⟨w.heap.size+1,2,none⟩)) rfl (by kernel_rfl) (by kernel_rfl) (by kernel_rfl) (by kernel_rfl) (by kernel_rfl) (fun _ _ _ h=>h) (Or.inl ⟨by kernel_rfl,fun V hV=>by obtain ⟨r0,r1,r2,r3,r4,r5,r6,r7,r8,r9⟩:=hV;go_simp⟩) ?_
 refine takeC (i:=3) (v:=.int .i64 y2) rfl (by kernel_rfl) (by kernel_rfl) (by kernel_rfl) (by kernel_rfl) (by kernel_rfl) (fun _ _ _ h=>h) (Or.inl ⟨by kernel_rfl,fun V hV=>by obtain ⟨r0,r1,r2,r3,r4,r5,r6,r7,r8,r9⟩:=hV;go_simp⟩) ?_
 refine takeC (i:=4) (v:=.agg #[.int .i64 x0,.int .i64 x1,.int .i64 x2,.int .i64 x3,.int .i64 x4]) rfl (by kernel_rfl) (by kernel_rfl) (by kernel_rfl) (by kernel_rfl) (by kernel_rfl) (fun _ _ _ h=>h) (Or.inl ⟨by kernel_rfl,fun V hV=>by obtain ⟨r0,r1,r2,r3,r4,r5,r6,r7,r8,r9⟩:=hV;go_simp⟩) ?_
 refine takeC (i:=6) (v:=.agg #[.int .i64 y0,.int .i64 y1,.int .i64 y2,.int .i64 y3,.int .i64 y4]) rfl (by kernel_rfl) (by kernel_rfl) (by kernel_rfl) (by kernel_rfl) (by kernel_rfl) (fun _ _ _ h=>h) (Or.inl ⟨by kernel_rfl,fun V hV=>by obtain ⟨r0,r1,r2,r3,r4,r5,r6,r7,r8,r9⟩:=hV;go_simp⟩) ?_
 refine consC (i:=5) (by kernel_rfl) (by kernel_rfl) ⟨dx0,dx1,dx2,dx3,dx4,dy0,dy1,dy2,dy3,dy4⟩ rfl (fun K hK=>?_)
 go_wp2_with fail
 refine (pbhE_any (.slice none 0 0) 0 [] x0 x1 x2 x3 x4 w.heap.size _ (World.ownsRow_nil _ _ _ _) (by omega) (by omega)).mono ?_
 rintro e1 w1 ⟨v1,rfl,ho1,hg1,at1⟩
 go_wp2_with fail
 obtain ⟨a1,c1,rfl⟩:=own_shape ho1
 have g1:wd.grownBy w1 none:=hg1
 have far1:∀ g,(Value.slice a1 1 c1).ownBlock=some g→wd.heap.size≤g:=fun g e=>at1.elim (fun x=>by rw [e] at x;cases x) (fun ⟨g',x,y⟩=>by rw [e] at x;cases x;exact y)
 have b1:Below wd.heap.size wd w1:=(Below.refl _ wd).grown g1 (Nat.le_refl _) (fun r e=>by cases e)
 have Ex:=Dx.below b1
 have Ey:=Dy.below b1
 have EY:=DY.below b1
 have ex0:=Ex.cell 0 _ rfl
 have ex1:=Ex.cell 1 _ rfl
 have ex2:=Ex.cell 2 _ rfl
 have ex3:=Ex.cell 3 _ rfl
 have ex4:=Ex.cell 4 _ rfl
 have ey0:=Ey.cell 0 _ rfl
 have ey1:=Ey.cell 1 _ rfl
 have ey2:=Ey.cell 2 _ rfl
 have ey3:=Ey.cell 3 _ rfl
 have ey4:=Ey.cell 4 _ rfl
 refine consC (i:=7) (by kernel_rfl) (by kernel_rfl) ⟨ex0,ex1,ex2,ex3,ex4,ey0,ey1,ey2,ey3,ey4⟩ rfl (fun K hK=>?_)
 go_wp2_with fail
 refine (pbhE_any (.slice a1 1 c1) 1 _ y0 y1 y2 y3 y4 w.heap.size _ ho1 (by have:=b1.size;omega) (by omega)).mono ?_
 rintro e2 w2 ⟨v2,rfl,ho2,hg2,hat2⟩
 go_wp2_with fail
 obtain ⟨a2,c2,rfl⟩:=own_shape ho2
 have b2:Below w.heap.size w1 w2:=(Below.refl _ w1).grown hg2 (by have:=b1.size;omega) (fun r e=>by have:=own_far ho1 r e;exact this)
 have n2:∀ B t c,SBox w1 B t c→t≠71→SBox w2 B t c:=fun B t c h ht=>(hg2.block B h.lt (block_not_row h ht ho1)).trans h
 have n3:∀ B c,SBox w1 B 71 c→B < wd.heap.size→SBox w2 B 71 c:=fun B c h hl=>(hg2.block B h.lt (fun e=>by have:=far1 B e.symm;omega)).trans h
 have Fx:=n3 _ _ Ex (by omega)
 have Fy:=n3 _ _ Ey (by omega)
 have FY:=n2 _ _ _ EY (by decide)
 have fx0:=Fx.cell 0 _ rfl
 have fx1:=Fx.cell 1 _ rfl
 have fx2:=Fx.cell 2 _ rfl
 have fx3:=Fx.cell 3 _ rfl
 have fx4:=Fx.cell 4 _ rfl
 have fy0:=Fy.cell 0 _ rfl
 have fy1:=Fy.cell 1 _ rfl
 have fy2:=Fy.cell 2 _ rfl
 have fy3:=Fy.cell 3 _ rfl
 have fy4:=Fy.cell 4 _ rfl
 have BW:Below w.heap.size w w2:=(bel_trans Bd b1).trans b2
 refine takeC (i:=8) (v:=.agg #[.int .i64 x1,.int .i64 y2,.slice a2 2 c2]) rfl (by kernel_rfl) (by kernel_rfl) (by kernel_rfl) (by kernel_rfl) (by kernel_rfl) (fun _ _ _ h=>h) (Or.inl ⟨by kernel_rfl,fun V hV=>by obtain ⟨r0,r1,r2,r3,r4,r5,r6,r7,r8,r9⟩:=hV;go_simp⟩) ?_
 have k0:=FY.cell 0 _ rfl
 have k1:=FY.cell 1 _ rfl
 have k2:=FY.cell 2 _ rfl
 have m0:=FY.frozen 0
 have m1:=FY.frozen 1
 have m2:=FY.frozen 2
 refine lastC (by kernel_rfl) (by kernel_rfl) ⟨fx0,fx1,fx2,fx3,fx4,fy0,fy1,fy2,fy3,fy4⟩ (of_decide_eq_true (by kernel_rfl)) ?_
 refine any_seqI [9] [_] _ _ _ rfl (by kernel_rfl) ?_
 go_wp2_with fail
 generalize hW:World.setCell _ _ _=W
 have RW:SBox W (w.heap.size+1+1) 63 #[.int .i64 x1,.int .i64 y2,.slice a2 2 c2]:=by rw [← hW];exact SBox.put3 FY _ _ _
 have BZ:Below w.heap.size w W:=by rw [← hW];exact ((BW.setCell (p:=⟨w.heap.size+1+1,0,none⟩) (by first | (simp;done) | (simp;omega)) _).setCell (p:=⟨w.heap.size+1+1,1,none⟩) (by first | (simp;done) | (simp;omega)) _).setCell (p:=⟨w.heap.size+1+1,2,none⟩) (by first | (simp;done) | (simp;omega)) _
 have hRow:W.ownsRow w.heap.size 71 5 (.slice a2 2 c2) 2 (recV edV [(x0,x1,x2,x3,x4),(y0,y1,y2,y3,y4)]):=by
  rw [← hW]
  have hne:(Value.slice a2 2 c2).ownBlock≠some (w.heap.size+1+1):=fun e=>block_not_row FY (by decide) ho2 e.symm
  exact owns_set3 ho2 0 hne _ _ _
 exact bodyPost_ret (v:=.agg #[.int .i64 x1,.int .i64 y2,.slice a2 2 c2]) (results_row1 Tryz.results92 _ _ (w.heap.size+1+1) 63 _ (0,0) _ rfl RW Tryz.underlying63 rfl size_st) rfl ⟨_,_,rfl,BZ,hRow⟩
end Go.Proofs.YtdlcimfifkhllaaGreat
namespace Go.Proofs.YtdlcimfifkhllaaGreat
set_option maxRecDepth 100000
open Go.RowKit Go.Shelf
set_option linter.unusedVariables false
attribute [local go_sem] Oper.semAt_some
abbrev eventsF8 (b:Nat):Value:=.func (.func 76) #[] #[.pointer (some ⟨b,0,none⟩)]
theorem pevents8_any (a:Option Addr) (n cap:Nat) (w:World) :
 Calls Tryz.prog 48 #[.slice a n cap] w fun e w'=>e=.returned (eventsF8 w.heap.size)∧w'=w.alloc (.cells #[.slice a n cap] 22):=by
 go_enter Tryz.func48,Tryz.ntmps48
 go_wp2_with fail
 go_ret
 exact ⟨rfl,rfl⟩
set_option maxHeartbeats 1000000 in
theorem events8_in (l:Nat) (h:List Ev) (w0:World) (a:Option Addr) (cap:Nat) (hT:IsEvs w0 (.slice a h.length cap) h) (bh k:Nat) (J Jx:List (Fin h.length)→World→Prop)
 (hY:∀ pre x W,J pre W→pre.length < h.length→YieldAt Fence.wide (k - 1) Tryz.prog l (ixV h x) W fun e W'=>(e=.returned (.bool true)∧J (pre++[x]) W'∧KpE w0.heap.size bh W W')∨(e=.returned (.bool false)∧Jx (pre++[x]) W'))
 (W:World) (hW:Below w0.heap.size w0 W) (hbox:Boxed W bh 22 (.slice a h.length cap)) (h0:J [] W) :
 CallsIn Fence.wide k Tryz.prog 76 #[.func (.yield l) #[] #[],.pointer (some ⟨bh,0,none⟩)] W fun e W'=>(∃ v,e=.returned v) ∧
  ((∃ ys,ys=List.finRange h.length∧J ys W')∨(∃ pre,pre <+: List.finRange h.length∧Jx pre W')):=by
 have hdd:∀ k:Nat,(Fence.wide.depth.isSome=true→1≤k):=fun k h=>by cases h
 obtain ⟨a',cap',e1,h1,h2,h3,HC⟩:=hT.some_at
 obtain ⟨rfl,rfl⟩:a'=a∧cap'=cap:=by simpa [eq_comm] using e1
 clear e1 hT
 have c0:=hbox.cell
 refine callsIn_of_wp Tryz.func76 rfl trivial ?_ rfl
 simp only [Tryz.ntmps76,List.size_toArray,List.length_cons,List.length_nil,Nat.reduceAdd,Nat.reduceSub,Array.replicate_succ,Array.replicate_zero,List.push_toArray,List.append_toArray,List.nil_append,List.cons_append]
 gi_wp2
 gi_loopw [6] (fun i wr=>∃ k:Nat,k≤h.length∧i=.int .i64 k∧J ((List.finRange h.length).take k) wr∧Below w0.heap.size w0 wr∧Boxed wr bh 22 (.slice a' h.length cap')) (fun i _=>h.length - (intOf i).toNat)
 case atStart=>exact ⟨0,Nat.zero_le _,rfl,h0,hW,hbox⟩
 case round =>
  obtain ⟨k',hk,rfl,hJ,hB,hbx⟩:=hrel
  have c1:=hbx.cell
  by_cases hlt:k' < h.length
  ·obtain ⟨bb,off,rfl,hblt,hcell⟩:=HC.out k' hlt
   obtain ⟨p0,p1,p2,p3⟩:=IsEvs.at hlt hcell
   have q0:=(hB.cell (p:=⟨bb,off+k'*4,none⟩) hblt).trans p0
   have q1:=(hB.cell (p:=⟨bb,off+k'*4+1,none⟩) hblt).trans p1
   have q2:=(hB.cell (p:=⟨bb,off+k'*4+2,none⟩) hblt).trans p2
   have q3:=(hB.cell (p:=⟨bb,off+k'*4+3,none⟩) hblt).trans p3
   have hR0:=hY _ ⟨k',hlt⟩ wr hJ (by rw [List.length_take,List.length_finRange];omega)
   rw [← fin_take hlt] at hR0
   obtain ⟨⟨x0,x1,x2,x3⟩,hx⟩:∃ x,h[k']=x:=⟨_,rfl⟩
   simp only [ixV,evW,hx] at hR0
   rw [hx] at q0 q1 q2 q3
   obtain ⟨fn,tmps,assign,body,hy,hR⟩:=hR0
   clear p0 p1 p2 p3 hcell hx
   have i0:(k':Int) < (h.length:Int):=by omega
   gi_wp2
   refine ⟨hdd _,?_⟩
   refine hR.mono ?_
   rintro e W3 (⟨rfl,hJ3,hk3⟩ | ⟨rfl,hJx3⟩)
   ·have hbx3:Boxed W3 bh 22 (.slice (some ⟨bb,off,none⟩) h.length cap'):=hk3.2.trans hbx
    gi_wp2
    go_roundw
    case rel=>exact ⟨k'+1,by omega,by first | go_num | simp,hJ3,hB.trans hk3.1,hbx3⟩
    case measure=>simp [intOf];omega
   ·gi_wp2
    refine bodyPost_ret (results_none rfl _ _ _) rfl ?_
    exact ⟨⟨_,rfl⟩,.inr ⟨_,List.take_prefix _ _,hJx3⟩⟩
  ·obtain rfl:k'=h.length:=by omega
   have hE:(List.finRange h.length).take h.length=List.finRange h.length:=List.take_of_length_le (by rw [List.length_finRange];exact Nat.le_refl _)
   rw [hE] at hJ
   clear hE
   gi_wp2
   go_end0
   exact ⟨⟨_,rfl⟩,.inl ⟨_,rfl,hJ⟩⟩
theorem events8_stops (h:List Ev) (w0:World) (a:Option Addr) (cap:Nat) (hT:IsEvs w0 (.slice a h.length cap) h) (bh k:Nat) (w:World) (hW:Below w0.heap.size w0 w) (hbox:Boxed w bh 22 (.slice a h.length cap)) :
 SeqStopsK Fence.wide k Tryz.prog 76 #[.pointer (some ⟨bh,0,none⟩)] (fun x:Fin h.length=>ixV h x) (KpE w0.heap.size bh) (fun ys=>ys=List.finRange h.length) (fun pre=>pre <+: List.finRange h.length) h.length w :=
 fun l J Jx W hb _ _ hY h0=>events8_in l h w0 a cap hT bh k J Jx hY W (hW.trans (hb.mono hW.size)) (boxed_below7 hbox hb) h0
end Go.Proofs.YtdlcimfifkhllaaGreat
namespace Go.Proofs.YtdlcimfifkhllaaGreat
set_option maxRecDepth 100000
open Go.RowKit
set_option linter.unusedVariables false
attribute [local go_sem] ba_size
theorem pends_any (y0 y1:Int) (y2 y3:List UInt8) (w:World) :
 Calls Tryz.prog 81 #[.agg #[.int .i64 y0,.int .i64 y1,.string ⟨y2.toArray⟩,.string ⟨y3.toArray⟩]] w fun e w'=>e=.returned (.bool (decide (y0=4∨y0=5)))∧Below w.heap.size w w':=by
 have B:=fun o=>(Below.refl w.heap.size w).alloc (Nat.le_refl _) o
 by_cases d4:y0=4
 ·have e4:(y0==4)=true:=by rw [d4];rfl
  rw [decide_eq_true (show _∨_ from Or.inl d4)]
  clear d4
  go_enter Tryz.func81,Tryz.ntmps81
  go_wp2_with fail
  go_ret
  exact ⟨rfl,B _⟩
 ·have e4:(y0==4)=false:=beq_eq_false_iff_ne.2 d4
  by_cases d5:y0=5
  ·have e5:(y0==5)=true:=by rw [d5];rfl
   rw [decide_eq_true (show _∨_ from Or.inr d5)]
   clear d4 d5
   go_enter Tryz.func81,Tryz.ntmps81
   go_wp2_with fail
   go_ret
   exact ⟨rfl,B _⟩
  ·have e5:(y0==5)=false:=beq_eq_false_iff_ne.2 d5
   rw [decide_eq_false (show ¬ (_∨_) from fun h=>h.elim d4 d5)]
   clear d4 d5
   go_enter Tryz.func81,Tryz.ntmps81
   go_wp2_with fail
   go_ret
   exact ⟨rfl,B _⟩
theorem pwrites_any (y0 y1:Int) (y2 y3 key:List UInt8) (w:World) :
 Calls Tryz.prog 103 #[.agg #[.int .i64 y0,.int .i64 y1,.string ⟨y2.toArray⟩,.string ⟨y3.toArray⟩],.string ⟨key.toArray⟩] w fun e w'=>e=.returned (.bool (decide (y0=3∧y2=key)))∧Below w.heap.size w w':=by
 have B:=fun o=>(Below.refl w.heap.size w).alloc (Nat.le_refl _) o
 by_cases d3:y0=3
 ·have e3:(y0==3)=true:=by rw [d3];rfl
  by_cases dk:y2=key
  ·have ek:(y2==key)=true:=by rw [dk];exact beq_self_eq_true _
   rw [decide_eq_true (show _∧_ from ⟨d3,dk⟩)]
   clear d3 dk
   go_enter Tryz.func103,Tryz.ntmps103
   go_wp2_with fail
   go_ret
   exact ⟨rfl,B _⟩
  ·have ek:(y2==key)=false:=beq_eq_false_iff_ne.2 dk
   rw [decide_eq_false (show ¬ (_∧_) from fun h=>dk h.2)]
   clear d3 dk
   go_enter Tryz.func103,Tryz.ntmps103
   go_wp2_with fail
   go_ret
   exact ⟨rfl,B _⟩
 ·have e3:(y0==3)=false:=beq_eq_false_iff_ne.2 d3
  rw [decide_eq_false (show ¬ (_∧_) from fun h=>d3 h.1)]
  clear d3
  go_enter Tryz.func103,Tryz.ntmps103
  go_wp2_with fail
  go_ret
  exact ⟨rfl,B _⟩
set_option maxHeartbeats 1000000 in
theorem pwriter1_any (y0 y1:Int) (y2 y3 key val:List UInt8) (bk bv:Nat) (W:World) (Kk:Boxed W bk 9 (.string ⟨key.toArray⟩)) (Kv:Boxed W bv 9 (.string ⟨val.toArray⟩)) :
 Calls Tryz.prog 102 #[.agg #[.int .i64 y0,.int .i64 y1,.string ⟨y2.toArray⟩,.string ⟨y3.toArray⟩],.pointer (some ⟨bk,0,none⟩),.pointer (some ⟨bv,0,none⟩)] W fun e w'=>e=.returned (.bool (decide (y0=3∧y2=key∧y3=val)))∧Below W.heap.size W w':=by
 have B:=fun o=>(Below.refl W.heap.size W).alloc (Nat.le_refl _) o
 have C:=fun V=>pwrites_any y0 y1 y2 y3 key V
 have c0:=(Kk.alloc (.cells #[.int .i64 y0,.int .i64 y1,.string ⟨y2.toArray⟩,.string ⟨y3.toArray⟩] 49)).cell
 by_cases d3:y0=3∧y2=key
 ·rw [decide_eq_true d3] at C
  by_cases dv:y3=val
  ·have ev:(y3==val)=true:=by rw [dv];exact beq_self_eq_true _
   rw [decide_eq_true (show _∧_∧_ from ⟨d3.1,d3.2,dv⟩)]
   clear d3 dv
   go_enter Tryz.func102,Tryz.ntmps102
   go_wp2_with fail
   refine (C _).mono ?_
   rintro e w1 ⟨rfl,b1⟩
   have k2:=boxed_below7 (Kv.alloc (.cells #[.int .i64 y0,.int .i64 y1,.string ⟨y2.toArray⟩,.string ⟨y3.toArray⟩] 49)) b1
   have x3:=(SBox.new W 49 #[.int .i64 y0,.int .i64 y1,.string ⟨y2.toArray⟩,.string ⟨y3.toArray⟩]).below b1
   have v3:=x3.cell 3 _ rfl
   have v2:=k2.cell
   go_wp2_with fail
   go_ret
   exact ⟨rfl,bel_trans (B _) b1⟩
  ·have ev:(y3==val)=false:=beq_eq_false_iff_ne.2 dv
   rw [decide_eq_false (show ¬ (_∧_∧_) from fun h=>dv h.2.2)]
   clear d3 dv
   go_enter Tryz.func102,Tryz.ntmps102
   go_wp2_with fail
   refine (C _).mono ?_
   rintro e w1 ⟨rfl,b1⟩
   have k2:=boxed_below7 (Kv.alloc (.cells #[.int .i64 y0,.int .i64 y1,.string ⟨y2.toArray⟩,.string ⟨y3.toArray⟩] 49)) b1
   have x3:=(SBox.new W 49 #[.int .i64 y0,.int .i64 y1,.string ⟨y2.toArray⟩,.string ⟨y3.toArray⟩]).below b1
   have v3:=x3.cell 3 _ rfl
   have v2:=k2.cell
   go_wp2_with fail
   go_ret
   exact ⟨rfl,bel_trans (B _) b1⟩
 ·rw [decide_eq_false d3] at C
  rw [decide_eq_false (show ¬ (_∧_∧_) from fun h=>d3 ⟨h.1,h.2.1⟩)]
  clear d3
  go_enter Tryz.func102,Tryz.ntmps102
  go_wp2_with fail
  refine (C _).mono ?_
  rintro e w1 ⟨rfl,b1⟩
  have k2:=boxed_below7 (Kv.alloc (.cells #[.int .i64 y0,.int .i64 y1,.string ⟨y2.toArray⟩,.string ⟨y3.toArray⟩] 49)) b1
  have x3:=(SBox.new W 49 #[.int .i64 y0,.int .i64 y1,.string ⟨y2.toArray⟩,.string ⟨y3.toArray⟩]).below b1
  have v3:=x3.cell 3 _ rfl
  have v2:=k2.cell
  go_wp2_with fail
  go_ret
  exact ⟨rfl,bel_trans (B _) b1⟩
theorem pwritten1_any (y0 y1:Int) (y2 y3 val:List UInt8) (bv:Nat) (W:World) (Kv:Boxed W bv 9 (.string ⟨val.toArray⟩)) :
 Calls Tryz.prog 101 #[.agg #[.int .i64 y0,.int .i64 y1,.string ⟨y2.toArray⟩,.string ⟨y3.toArray⟩],.pointer (some ⟨bv,0,none⟩)] W fun e w'=>e=.returned (.bool (decide (y0=3∧y3=val)))∧Below W.heap.size W w':=by
 have B:=fun o=>(Below.refl W.heap.size W).alloc (Nat.le_refl _) o
 have c0:=(Kv.alloc (.cells #[.int .i64 y0,.int .i64 y1,.string ⟨y2.toArray⟩,.string ⟨y3.toArray⟩] 49)).cell
 by_cases d3:y0=3
 ·have e3:(y0==3)=true:=by rw [d3];rfl
  by_cases dk:y3=val
  ·have ek:(y3==val)=true:=by rw [dk];exact beq_self_eq_true _
   rw [decide_eq_true (show _∧_ from ⟨d3,dk⟩)]
   clear d3 dk
   go_enter Tryz.func101,Tryz.ntmps101
   go_wp2_with fail
   go_ret
   exact ⟨rfl,B _⟩
  ·have ek:(y3==val)=false:=beq_eq_false_iff_ne.2 dk
   rw [decide_eq_false (show ¬ (_∧_) from fun h=>dk h.2)]
   clear d3 dk
   go_enter Tryz.func101,Tryz.ntmps101
   go_wp2_with fail
   go_ret
   exact ⟨rfl,B _⟩
 ·have e3:(y0==3)=false:=beq_eq_false_iff_ne.2 d3
  rw [decide_eq_false (show ¬ (_∧_) from fun h=>d3 h.1)]
  clear d3
  go_enter Tryz.func101,Tryz.ntmps101
  go_wp2_with fail
  go_ret
  exact ⟨rfl,B _⟩
abbrev endE (y:Ev):Prop:=y.1=4∨y.1=5
def endedIn (h:List Ev) (pre:List (Fin h.length)) (t:Int):Bool:=pre.any fun j=>decide (h[j.val].2.1=t∧endE h[j.val])
def livG (h:List Ev):List (Fin h.length)→List (Fin h.length)→List (Fin h.length)
 | _,[]=>[]
 | seen,x::r=>if endedIn h seen h[x.val].2.1=true then livG h (seen++[x]) r else x::livG h (seen++[x]) r
def livF (h:List Ev) (pre:List (Fin h.length)):List (Fin h.length):=livG h [] pre
def livP (h:List Ev):List (Fin h.length):=livF h (List.finRange h.length)
theorem livG_append (h:List Ev):∀ (l seen r:List (Fin h.length)),livG h seen (l++r)=livG h seen l++livG h (seen++l) r
 | [],seen,r=>by simp [livG]
 | y::l,seen,r=>by
   show livG h seen (y::(l++r))=_
   rw [livG,livG,livG_append h l (seen++[y]) r]
   by_cases he:endedIn h seen h[y.val].2.1=true
   ·rw [if_pos he,if_pos he];simp
   ·rw [if_neg he,if_neg he];simp
theorem livF_snoc_dead (h:List Ev) (pre:List (Fin h.length)) (x:Fin h.length) (he:endedIn h pre h[x.val].2.1=true):livF h (pre++[x])=livF h pre:=by
 unfold livF
 rw [livG_append,List.nil_append,livG,if_pos he,livG,List.append_nil]
theorem livF_snoc (h:List Ev) (pre:List (Fin h.length)) (x:Fin h.length) (he:endedIn h pre h[x.val].2.1=false):livF h (pre++[x])=livF h pre++[x]:=by
 unfold livF
 rw [livG_append,List.nil_append,livG,if_neg (by rw [he];simp),livG]
theorem livG_len (h:List Ev):∀ (l seen:List (Fin h.length)),(livG h seen l).length≤l.length
 | [],seen=>Nat.le_refl _
 | y::l,seen=>by
   rw [livG]
   have:=livG_len h l (seen++[y])
   by_cases he:endedIn h seen h[y.val].2.1=true
   ·rw [if_pos he];simp only [List.length_cons];omega
   ·rw [if_neg he];simp only [List.length_cons];omega
theorem livF_len (h:List Ev) (pre:List (Fin h.length)):(livF h pre).length≤pre.length:=livG_len h pre []
theorem livF_prefix (h:List Ev) {pre q:List (Fin h.length)} (hp:pre <+: q):livF h pre <+: livF h q:=by
 obtain ⟨r,rfl⟩:=hp
 unfold livF
 rw [livG_append]
 exact List.prefix_append _ _
theorem endedIn_snoc (h:List Ev) (pre:List (Fin h.length)) (x:Fin h.length) (t:Int):endedIn h (pre++[x]) t=(endedIn h pre t || decide (h[x.val].2.1=t∧endE h[x.val])):=by
 unfold endedIn
 rw [List.any_append]
 simp
theorem endedIn_take (h:List Ev) (k:Nat) (hk:k≤h.length) (t:Int):endedIn h ((List.finRange h.length).take k) t=(endL h t k).isSome:=by
 rw [Bool.eq_iff_iff]
 unfold endedIn
 rw [List.any_eq_true]
 constructor
 ·rintro ⟨j,hj,hd⟩
  have hjk:j.val < k:=by
   obtain ⟨i,hi,rfl⟩:=List.mem_take_iff_getElem.1 hj
   simp at hi ⊢
   omega
  rw [decide_eq_true_eq] at hd
  cases he:endL h t k with
  | some e=>rfl
  | none =>
    have:=(fi_none _ _).1 he j.val hjk
    unfold isEnd at this
    rw [decide_eq_false_iff_not,ev_get h _ j.isLt] at this
    exact absurd hd this
 ·intro hs
  obtain ⟨e,he⟩:=Option.isSome_iff_exists.1 hs
  obtain ⟨h1,h2,h3⟩:=(fi_some _ _ _).1 he
  unfold isEnd at h2
  rw [decide_eq_true_eq,ev_get h _ (by omega)] at h2
  exact ⟨⟨e,by omega⟩,List.mem_take_iff_getElem.2 ⟨e,by simp;omega,by simp⟩,decide_eq_true h2⟩
end Go.Proofs.YtdlcimfifkhllaaGreat
namespace Go.Proofs.YtdlcimfifkhllaaGreat
set_option maxRecDepth 100000
open Go.RowKit
set_option linter.unusedVariables false
def SeqStopsW {α:Type} (F:Fence) (n:Nat) (P:Program) (g:Nat) (lb:Array Value) (encs:α→Array Value) (Kp:World→World→Prop) (S Sp:List α→Prop) (N H l:Nat) (W:World):Prop :=
 ∀ J Jx:List α→World→Prop,OwnFrom W.heap.size J→OwnFrom W.heap.size Jx →
   (∀ pre x V,J pre V→pre.length < N→H≤V.heap.size→YieldAt F (n - 1) P l (encs x) V fun e V'=>(e=.returned (.bool true)∧J (pre++[x]) V'∧Kp V V'∧KeepsFrom W.heap.size V V')∨(e=.returned (.bool false)∧Jx (pre++[x]) V'∧KeepsFrom W.heap.size V V')) →
   J [] W→CallsIn F n P g (#[.func (.yield l) #[] #[]]++lb) W fun e V=>(∃ v,e=.returned v)∧((∃ xs,S xs∧J xs V)∨∃ pre,Sp pre∧Jx pre V)
theorem keeps_put {B l:Nat} {W:World} (o:Obj) (hl:l < B):KeepsFrom B W (W.putObj l o) :=
 KeepsFrom.of_grownBy (grownBy_putObj' W l o) (fun j e=>by cases e;exact hl)
theorem keeps_far {B B':Nat} {X Y:World} (h:KeepsFrom B X Y) (hb:B≤B'):KeepsFrom B' X Y:=⟨h.size,fun k o hk=>h.same k o (by omega)⟩
section
variable {F:Fence} {n:Nat} {P:Program} {w:World}
theorem rangeFunc_C {α:Type} {g:Operand} {ps:Array Tmp} {assign body:Code} {Q:Exit→Act→World→Prop} {a:Act}
 (hro:F.round=none) (h1:1≤n) {gf:Nat} {lb:Array Value} (hg:a.eval g=.func (.func gf) #[] lb) (hFg:F.fn gf) (eg:∀ args w,(callFunc gf args).run P w=.ok (.enter gf args) w)
 {encs:α→Array Value} {Kp:World→World→Prop} {S Sp:List α→Prop} {N H:Nat}
 (hseq:∀ V,Below w.heap.size w V→V.heap.size=w.heap.size+1+1→SeqStopsW F (n - 1) P gf lb encs Kp S Sp N H (w.heap.size+1) V)
 (hKt:∀ {A B C:World},Kp A B→Kp B C→Kp A C) (hKb:∀ (W:World) (o o':Loop),W.heap[w.heap.size+1]?=some (.loop o)→Kp W (W.putObj (w.heap.size+1) (.loop o'))) (hps:∀ x,(encs x).size=ps.size)
 (I:List α→World→Prop) (Ix:Code→List α→World→Prop) (hI:OwnFrom w.heap.size I) (hIx:∀ c,OwnFrom w.heap.size (Ix c)) (h0:I [] w)
 (Ax:α→Act→World→Prop) (hAx:∀ x a',OwnFrom w.heap.size (fun (_:Unit) W=>Ax x a' W))
 (hassign:∀ (l:Nat) (pre:List α) (x:α) (W:World) (K:Act→World→Prop),I pre W→H≤W.heap.size→(∀ a' W',KeepsFrom w.heap.size W W'→Kp W W'→I pre W'→Ax x a' W'→K a' W') →
  assign.wpIn (F.inRound l) (n - 1 - 1) P (Exit.then K (fun _ _ _=>False)) { tmps:=(ps.zip (encs x)).foldl (fun t (p,v)=>t.setIfInBounds p v) a.tmps,defers:=[] } W)
 (hbody:∀ (l:Nat) (pre:List α) (x:α) (a':Act) (W:World),I pre W→H≤W.heap.size→Ax x a' W→pre.length < N→body.wpIn (F.inRound l) (n - 1 - 1) P (ownPostG w.heap.size Kp I Ix (pre++[x]) W) a' W)
 (hdone:∀ (D:Nat) (xs:List α) (W:World),w.heap.size≤D→S xs→I xs W→W.heap[D]?=some (.deferred (some []))→Q .normal { a with defers:={ target:=.collected D,args:=#[] }::a.defers } W)
 (hstop:∀ (D:Nat) (c:Code) (pre:List α) (W:World),w.heap.size≤D→Sp pre→Ix c pre W→W.heap[D]?=some (.deferred (some []))→c.wpIn F n P Q { a with defers:={ target:=.collected D,args:=#[] }::a.defers } W) :
 (Code.rangeFunc g ps assign body).wpIn F n P Q a w:=by
 refine wpIn_rangeFunc ?_
 intro fn hfn
 rw [hro]
 obtain ⟨R,hR⟩:∃ R:LoopState→Option Code→Loop,R=fun st pe=>{ state:=st,pending:=pe,fn,tmps:=a.tmps,params:=ps,assign,body,defers:=w.heap.size }:=⟨_,rfl⟩
 obtain ⟨V,hV⟩:∃ V,(w.alloc (.deferred (some []))).alloc (.loop (R .ready none))=V:=⟨_,rfl⟩
 have vs:V.heap.size=w.heap.size+1+1:=by rw [← hV];simp
 have vl:V.heap[w.heap.size+1]?=some (.loop (R .ready none)):=by
  have:=World.alloc_heap_new (w.alloc (.deferred (some []))) (.loop (R .ready none))
  rw [World.size_alloc] at this
  rw [← hV];exact this
 have vd:V.heap[w.heap.size]?=some (.deferred (some [])):=by
  rw [← hV];exact (Below.heap_alloc _ _ _ (by simp)).trans (World.alloc_heap_new w _)
 have vb:Below w.heap.size w V:=by rw [← hV];exact ((Below.refl _ w).alloc (Nat.le_refl _) _).alloc (by simp) _
 have vI:I [] V:=by rw [← hV];exact hI.alloc _ (hI.alloc _ h0)
 refine ⟨w.heap.size+1,[{ target:=.collected w.heap.size,args:=#[] }],V,{ target:=.fn (.func gf) lb,args:=#[.func (.yield (w.heap.size+1)) #[] #[]] },V,gf,#[.func (.yield (w.heap.size+1)) #[] #[]]++lb,V,?_,?_,?_,?_,fun _=>h1,?_⟩
 ·rw [← hV,hR];exact run_enterLoop_outer _ _ _ _ _
 ·simp only [resolve,hg]
  simp [go_sem]
 ·intro f' hf';simp [Target.leads] at hf';subst hf';exact hFg
 ·simp [invoke,go_sem,eg]
 have far:∀ {A B:World} {row:Option Nat} {k:Nat} {o:Obj},A.grownBy B row→(∀ r,row=some r→V.heap.size≤r∧∃ o:Obj,A.heap[r]?=some o∧o.isCells=false)→k < V.heap.size→A.heap[k]?=some o→B.heap[k]?=some o:=fun hg' hr hk ho =>
  (hg'.block _ (Array.getElem?_eq_some_iff.1 ho).1 (fun e=>by have:=(hr _ e.symm).1;omega)).trans ho
 refine (hseq V vb vs (fun pre W=>I pre W∧W.heap[w.heap.size+1]?=some (.loop (R .ready none))∧W.heap[w.heap.size]?=some (.deferred (some [])))
  (fun pre W=>∃ c,Ix c pre W∧W.heap[w.heap.size+1]?=some (.loop (R .done (some c)))∧W.heap[w.heap.size]?=some (.deferred (some []))) ?ownJ ?ownX ?round ⟨vI,vl,vd⟩).mono ?behind
 case ownJ =>
  intro s A B row hs hg' hr
  exact ⟨hI s A B row hs.1 hg' (fun r e=>⟨by have:=(hr r e).1;omega,(hr r e).2⟩),far hg' hr (by omega) hs.2.1,far hg' hr (by omega) hs.2.2⟩
 case ownX =>
  intro s A B row hs hg' hr
  obtain ⟨c,hc,hl,hd⟩:=hs
  exact ⟨c,hIx c s A B row hc hg' (fun r e=>⟨by have:=(hr r e).1;omega,(hr r e).2⟩),far hg' hr (by omega) hl,far hg' hr (by omega) hd⟩
 case round =>
  rintro pre x W ⟨hi,hl,hd⟩ hlen hH
  have hy:=run_yield (P:=P) (args:=encs x) hl (by rw [hR];exact hps x)
  rw [hR] at hy
  refine ⟨fn,_,assign,body,hy,roundIn_of_wpIn hfn (hassign _ pre x W _ hi hH ?_)⟩
  clear hy
  intro a' A kA pA iA xA
  have hlA:=kA.same _ _ (by omega) hl rfl
  have hdA:=kA.same _ _ (Nat.le_refl _) hd rfl
  have zA:w.heap.size+1 < A.heap.size:=(Array.getElem?_eq_some_iff.1 hlA).1
  refine ⟨_,run_beginRound hlA (by rw [hR]),?_⟩
  obtain ⟨B,hB⟩:∃ B,A.putObj (w.heap.size+1) (.loop { R .ready none with state:=.busy })=B:=⟨_,rfl⟩
  have zB:B.heap.size=A.heap.size:=by rw [← hB];simp
  have hlB:B.heap[w.heap.size+1]?=some (.loop { R .ready none with state:=.busy }):=by rw [← hB];exact World.putObj_heap_same zA
  have hdB:B.heap[w.heap.size]?=some (.deferred (some [])):=by rw [← hB];exact (World.putObj_heap_other (by omega)).trans hdA
  have iB:I pre B:=by rw [← hB];exact hI.putObj _ iA (by omega) hlA rfl
  have xB:Ax x a' B:=by rw [← hB];exact (hAx x a').putObj (s:=()) _ xA (by omega) hlA rfl
  have kB:KeepsFrom V.heap.size W B:=(keeps_far kA (by omega)).trans (by rw [← hB];exact keeps_put _ (by omega))
  have pB:Kp W B:=hKt pA (by rw [← hB];exact hKb _ _ _ hlA)
  rw [hB]
  refine wpIn_mono (hbody _ pre x a' B iB (by rw [zB];exact Nat.le_trans hH kA.size) xB hlen) ?_
  have fin:∀ (jump:Option Code) (C:World),KeepsFrom w.heap.size B C →
   (Instr.endRound (w.heap.size+1) jump).run P C=.ok (.bool jump.isNone) (C.putObj (w.heap.size+1) (.loop (R (if jump.isNone then .ready else .done) jump))) ∧
   C.heap[w.heap.size+1]?=some (.loop { R .ready none with state:=.busy }) ∧
   (C.putObj (w.heap.size+1) (.loop (R (if jump.isNone then .ready else .done) jump))).heap[w.heap.size+1]?=some (.loop (R (if jump.isNone then .ready else .done) jump)) ∧
   (C.putObj (w.heap.size+1) (.loop (R (if jump.isNone then .ready else .done) jump))).heap[w.heap.size]?=some (.deferred (some [])):=fun jump C kC=>by
   have hlC:=kC.same _ _ (by omega) hlB rfl
   have e:=run_endRound (P:=P) jump hlC
   rw [hR] at e ⊢
   exact ⟨e,by rw [hR] at hlC;exact hlC,World.putObj_heap_same (Array.getElem?_eq_some_iff.1 hlC).1,(World.putObj_heap_other (by omega)).trans (kC.same _ _ (Nat.le_refl _) hdB rfl)⟩
  rintro e a3 C hp
  cases e with
  | normal =>
    obtain ⟨kC,pC,iC⟩:=hp
    obtain ⟨e1,e2,e3,e4⟩:=fin none C kC
    exact ⟨_,_,e1,.inl ⟨rfl,⟨hI.putObj _ iC (by omega) e2 rfl,e3,e4⟩,hKt pB (hKt pC (hKb _ _ _ e2)),kB.trans ((keeps_far kC (by omega)).trans (keeps_put _ (by omega)))⟩⟩
  | ret =>
    obtain ⟨kC,iC⟩:=hp
    obtain ⟨e1,e2,e3,e4⟩:=fin (some .ret) C kC
    exact ⟨_,_,e1,.inr ⟨rfl,⟨.ret,(hIx _).putObj _ iC (by omega) e2 rfl,e3,e4⟩,kB.trans ((keeps_far kC (by omega)).trans (keeps_put _ (by omega)))⟩⟩
  | exit id =>
    obtain ⟨kC,iC⟩:=hp
    obtain ⟨e1,e2,e3,e4⟩:=fin (some (.exit id)) C kC
    exact ⟨_,_,e1,.inr ⟨rfl,⟨.exit id,(hIx _).putObj _ iC (by omega) e2 rfl,e3,e4⟩,kB.trans ((keeps_far kC (by omega)).trans (keeps_put _ (by omega)))⟩⟩
  | goto t =>
    obtain ⟨kC,iC⟩:=hp
    obtain ⟨e1,e2,e3,e4⟩:=fin (some (.goto t)) C kC
    exact ⟨_,_,e1,.inr ⟨rfl,⟨.goto t,(hIx _).putObj _ iC (by omega) e2 rfl,e3,e4⟩,kB.trans ((keeps_far kC (by omega)).trans (keeps_put _ (by omega)))⟩⟩
  | panic ch=>exact hp.elim
  | outgrown=>exact hp.elim
 case behind =>
  rintro e W2 ⟨⟨v,rfl⟩,(⟨xs,hS,hi,hl,hd⟩ | ⟨pre,hSp,c,hi,hl,hd⟩)⟩
  ·exact ⟨none,_,by have:=run_endLoop (P:=P) hl (by rw [hR];simp);rw [hR] at this;exact this,hdone _ xs _ (Nat.le_refl _) hS (hI.putObj _ hi (by omega) hl rfl) ((World.putObj_heap_other (by omega)).trans hd)⟩
  ·exact ⟨some c,_,by have:=run_endLoop (P:=P) hl (by rw [hR];simp);rw [hR] at this;exact this,hstop _ c pre _ (Nat.le_refl _) hSp ((hIx c).putObj _ hi (by omega) hl rfl) ((World.putObj_heap_other (by omega)).trans hd)⟩
theorem callsIn_depth {n:Nat} (m:Nat) {P:Program} {f:FuncId} {args:Array Value} {w:World} {R:Ending→World→Prop} (h:CallsIn Fence.wide m P f args w R):CallsIn Fence.wide n P f args w R:=callsIn_wide.2 (callsIn_wide.1 h)
theorem yield_any {m:Nat} (m':Nat) {l:Nat} {args:Array Value} {W:World} {R:Ending→World→Prop} (h:YieldAt Fence.wide m P l args W R):YieldAt Fence.wide m' P l args W R:=by
 obtain ⟨fn,tmps,assign,body,hy,hR⟩:=h
 exact ⟨fn,tmps,assign,body,hy,hR.1,fun c cs _=>hR.2 c cs (fun d h=>by cases h)⟩
end
end Go.Proofs.YtdlcimfifkhllaaGreat
namespace Go.Proofs.YtdlcimfifkhllaaGreat
set_option maxRecDepth 100000
open Go.RowKit Go.Shelf Go.Maps
set_option linter.unusedVariables false
attribute [local go_sem] Oper.semAt_some
abbrev livingF (b:Nat):Value:=.func (.func 104) #[] #[.pointer (some ⟨b,0,none⟩)]
theorem pliving_any (a:Option Addr) (n cap:Nat) (w:World) :
 Calls Tryz.prog 80 #[.slice a n cap] w fun e w'=>e=.returned (livingF w.heap.size)∧w'=w.alloc (.cells #[.slice a n cap] 22):=by
 go_enter Tryz.func80,Tryz.ntmps80
 go_wp2_with fail
 go_ret
 exact ⟨rfl,rfl⟩
theorem zero8u (w:World):(zeroValue 126).run Tryz.prog w=.ok (.agg #[]) w:=by kernel_rfl
structure KpL (n b A:Nat) (W W':World):Prop where
 below:Below n W W'
 box:W'.heap[b]?=W.heap[b]?
 own:∀ j,A≤j→j < A+1+1+1+1→W'.heap[j]?=W.heap[j]?
theorem KpL.trans {n b A:Nat} {X Y Z:World} (h:KpL n b A X Y) (k:KpL n b A Y Z):KpL n b A X Z :=
 ⟨h.below.trans k.below,k.box.trans h.box,fun j h1 h2=>(k.own j h1 h2).trans (h.own j h1 h2)⟩
structure VSt (V:World) (l:Nat) (sl:Value) (m:Nat) (p:Int→Bool) (W:World):Prop where
 size:V.heap.size+1+1+1+1≤W.heap.size
 by_:Boxed W (V.heap.size) 111 (.func (.yield l) #[] #[])
 bm:ISet W (V.heap.size+1) m p
 bb:Boxed W (V.heap.size+1+1) 136 (.map (some (V.heap.size+1)))
 be:Boxed W (V.heap.size+1+1+1) 22 sl
theorem VSt.bel {V:World} {l:Nat} {sl:Value} {m:Nat} {p:Int→Bool} {W W':World} (h:VSt V l sl m p W) (hb:Below (V.heap.size+1+1+1+1) W W'):VSt V l sl m p W' :=
 ⟨Nat.le_trans h.size hb.size,boxed_bel h.by_ hb (by omega),h.bm.bel hb (by omega),boxed_bel h.bb hb (by omega),boxed_bel h.be hb (by omega)⟩
theorem VSt.turn {V:World} {l:Nat} {sl:Value} {m m':Nat} {p p':Int→Bool} {W W':World} (h:VSt V l sl m p W) (hg:W.grownBy W' (some (V.heap.size+1))) (hf:ISet W' (V.heap.size+1) m' p'):VSt V l sl m' p' W' :=
 ⟨Nat.le_trans h.size hg.size,h.by_.kept hg (fun e=>by have:=Option.some.inj e;omega),hf,h.bb.kept hg (fun e=>by have:=Option.some.inj e;omega),h.be.kept hg (fun e=>by have:=Option.some.inj e;omega)⟩
theorem VSt.own {V:World} {l:Nat} {sl:Value} {m:Nat} {p:Int→Bool} {W W':World} (h:VSt V l sl m p W) (hs:W.heap.size≤W'.heap.size) (ho:∀ j,V.heap.size≤j→j < V.heap.size+1+1+1+1→W'.heap[j]?=W.heap[j]?):VSt V l sl m p W' :=
 ⟨Nat.le_trans h.size hs,(ho _ (by omega) (by omega)).trans h.by_,h.bm.same (ho _ (by omega) (by omega)),(ho _ (by omega) (by omega)).trans h.bb,(ho _ (by omega) (by omega)).trans h.be⟩
theorem own_step {β:Type} {B:Nat} {J:β→World→Prop} (hJ:OwnFrom B J) {s:β} {W W':World} (h:J s W) (hg:Below W.heap.size W W'):J s W' :=
 hJ s W W' none h (grown_below8 none hg) (fun r e=>by cases e)
set_option maxHeartbeats 4000000 in
theorem living8_in (h:List Ev) (w0:World) (a:Option Addr) (cap:Nat) (hT:IsEvs w0 (.slice a h.length cap) h) (hG:∀ x∈h,goodE x) (hn:h.length≤300) (bh k l:Nat) (V:World) (hW:Below w0.heap.size w0 V) (hbox:Boxed V bh 22 (.slice a h.length cap)) (J Jx:List (Fin h.length)→World→Prop) (hJ:OwnFrom V.heap.size J) (hJx:OwnFrom V.heap.size Jx)
 (hY:∀ pre x W,J pre W→pre.length < h.length→V.heap.size+1+1+1+1≤W.heap.size→YieldAt Fence.wide (k - 1) Tryz.prog l (ixV h x) W fun e W'=>(e=.returned (.bool true)∧J (pre++[x]) W'∧KpL w0.heap.size bh V.heap.size W W'∧KeepsFrom V.heap.size W W')∨(e=.returned (.bool false)∧Jx (pre++[x]) W'∧KeepsFrom V.heap.size W W'))
 (h0:J [] V) :
 CallsIn Fence.wide k Tryz.prog 104 #[.func (.yield l) #[] #[],.pointer (some ⟨bh,0,none⟩)] V fun e W'=>(∃ v,e=.returned v) ∧
  ((∃ ys,ys=livP h∧J ys W')∨(∃ pre,pre <+: livP h∧Jx pre W')):=by
 have hdd:∀ k:Nat,(Fence.wide.depth.isSome=true→1≤k):=fun k h=>by cases h
 have hmm:=@run_makeMap Tryz.prog
 have c0:=(((hbox.alloc (.cells #[.func (.yield l) #[] #[]] 111)).alloc (.map #[] 0)).alloc (.cells #[.map (some (V.heap.size+1))] 136)).cell
 have hbl:=hbox.lt
 refine callsIn_depth 5 ?_
 refine callsIn_of_wp_marks Tryz.func104 rfl trivial ?_ rfl
 simp only [Tryz.ntmps104,List.size_toArray,List.length_cons,List.length_nil,Nat.reduceAdd,Nat.reduceSub,Array.replicate_succ,Array.replicate_zero,List.push_toArray,List.append_toArray,List.nil_append,List.cons_append]
 gi_wp2_with ((try refine ⟨trivial,?_⟩);gi_at_call 48;refine (callsIn_wide.2 (pevents8_any _ _ _ _)).mono ?_;rintro e w2 ⟨rfl,rfl⟩)
 have hS0:VSt V l (.slice a h.length cap) 0 (fun _=>false) ((((V.alloc (.cells #[.func (.yield l) #[] #[]] 111)).alloc (.map #[] 0)).alloc (.cells #[.map (some (V.heap.size+1))] 136)).alloc (.cells #[.slice a h.length cap] 22)):=by
  have b0:=(((Boxed.new V 111 (.func (.yield l) #[] #[])).alloc (.map #[] 0)).alloc (.cells #[.map (some (V.heap.size+1))] 136)).alloc (.cells #[.slice a h.length cap] 22)
  have b1:=((ISet.made (V.alloc (.cells #[.func (.yield l) #[] #[]] 111))).kept (World.grownBy_alloc _ (.cells #[.map (some (V.heap.size+1))] 136) none) (by simp)).kept (World.grownBy_alloc _ (.cells #[.slice a h.length cap] 22) none) (by simp)
  have b2:=(Boxed.new ((V.alloc (.cells #[.func (.yield l) #[] #[]] 111)).alloc (.map #[] 0)) 136 (.map (some (V.heap.size+1)))).alloc (.cells #[.slice a h.length cap] 22)
  have b3:=Boxed.new (((V.alloc (.cells #[.func (.yield l) #[] #[]] 111)).alloc (.map #[] 0)).alloc (.cells #[.map (some (V.heap.size+1))] 136)) 22 (.slice a h.length cap)
  simp only [World.size_alloc] at b0 b1 b2 b3
  exact ⟨by simp,b0,b1,b2,b3⟩
 have B0:Below V.heap.size V ((((V.alloc (.cells #[.func (.yield l) #[] #[]] 111)).alloc (.map #[] 0)).alloc (.cells #[.map (some (V.heap.size+1))] 136)).alloc (.cells #[.slice a h.length cap] 22)):=((((Below.refl _ V).alloc (Nat.le_refl _) _).alloc (by simp) _).alloc (by simp;omega) _).alloc (by simp;omega) _
 obtain ⟨W0,hW0⟩:∃ W0,((((V.alloc (.cells #[.func (.yield l) #[] #[]] 111)).alloc (.map #[] 0)).alloc (.cells #[.map (some (V.heap.size+1))] 136)).alloc (.cells #[.slice a h.length cap] 22))=W0:=⟨_,rfl⟩
 have sW0:W0.heap.size=V.heap.size+1+1+1+1:=by rw [← hW0];simp
 change Code.wpIn _ _ _ _ _ _ ((((V.alloc (.cells #[.func (.yield l) #[] #[]] 111)).alloc (.map #[] 0)).alloc (.cells #[.map (some (V.heap.size+1))] 136)).alloc (.cells #[.slice a h.length cap] 22))
 rw [hW0] at hS0 B0 ⊢
 clear hW0 c0
 have J0:J [] W0:=own_step hJ h0 B0
 refine wpIn_rangeFunc_ownH rfl (by omega) (gf:=76) (lb:=#[.pointer (some ⟨V.heap.size+1+1+1,0,none⟩)]) rfl trivial (enters_of Tryz.func76 (by kernel_rfl) rfl)
  (events8_stops h w0 a cap hT (V.heap.size+1+1+1) (5 - 1) W0 (hW.trans (B0.mono hW.size)) hS0.be) (fun h k=>kpE_t h k) (kpE_b (by have:=hW.size;omega) (by omega)) (Below.refl _ _) (fun _=>rfl)
  (fun pre W=>J (livF h pre) W∧VSt V l (.slice a h.length cap) pre.length (endedIn h pre) W∧Below V.heap.size V V) (fun c pre W=>c=.ret∧Jx (livF h pre) W)
  (fun s X Y row ⟨hj,hs,hb⟩ hg hr=>⟨hJ _ X Y row hj hg (fun r e=>⟨by have:=(hr r e).1;omega,(hr r e).2⟩),hs.bel ((Below.refl _ X).grown hg hs.size (fun r e=>by have:=(hr r e).1;omega)),hb⟩)
  (fun c s X Y row ⟨hc,hj⟩ hg hr=>⟨hc,hJx _ X Y row hj hg (fun r e=>⟨by have:=(hr r e).1;omega,(hr r e).2⟩)⟩)
  ⟨J0,hS0,Below.refl _ _⟩
  (fun x a' W=>∃ Bx,V.heap.size+1+1+1 < Bx∧SBox W Bx 49 #[.int .i64 h[x.val].1,.int .i64 h[x.val].2.1,.string ⟨h[x.val].2.2.1.toArray⟩,.string ⟨h[x.val].2.2.2.toArray⟩]∧a'={ tmps:=#[.func (.yield l) #[] #[],.pointer (some ⟨bh,0,none⟩),.pointer (some ⟨V.heap.size,0,none⟩),.pointer (some ⟨V.heap.size+1+1,0,none⟩),.int .i64 (x.val:Int),.pointer (some ⟨Bx,0,none⟩),undef,undef,.map (some (V.heap.size+1)),.slice a h.length cap,eventsF8 (V.heap.size+1+1+1),.int .i64 (x.val:Int),evW h[x.val],undef,undef,undef,undef,undef,undef,undef,undef,undef,undef,undef,undef,undef,undef,undef,undef,undef,undef,undef],defers:=[] })
  (fun x a' _ A B row hs hg hr=>by
   obtain ⟨Bx,h1,h2,h4⟩:=hs
   exact ⟨Bx,h1,block_kept h2 hg (fun r e=>(hr r e).2),h4⟩)
  ?assign ?body ?done ?stop
 case assign =>
  rintro l' pre x W K ⟨hj,hS,_⟩ hK
  have hsz:=hS.size
  gi_wp2
  have b1:=(Below.refl W.heap.size W).alloc (Nat.le_refl _) (.cells #[.int .i64 h[x.val].1,.int .i64 h[x.val].2.1,.string ⟨h[x.val].2.2.1.toArray⟩,.string ⟨h[x.val].2.2.2.toArray⟩] 49)
  refine hK _ _ ((KeepsOthers.alloc _ _).from _) ⟨(Below.refl _ W).alloc (by have:=hW.size;omega) _,Below.heap_alloc W _ _ (by omega)⟩ ⟨own_step hJ hj b1,hS.bel (b1.mono hsz),Below.refl _ _⟩ ⟨W.heap.size,by omega,SBox.new W _ _,rfl⟩
 case body =>
  rintro l' pre x a' W hl hrec ⟨hj,hS,_⟩ ⟨Bx,hBx,hblk,rfl⟩ hlt
  have HW0:Hid (W0.heap.size=V.heap.size+1+1+1+1):=sW0
  have hVs:=hW.size
  clear sW0 hS0 hl hrec J0 B0
  have hsz:=hS.size
  have hxn:=x.isLt
  have hgx:=hG h[x.val] (List.getElem_mem _)
  obtain ⟨⟨y0,y1,y2,y3⟩,hy⟩:∃ y,h[x.val]=y:=⟨_,rfl⟩
  have HY:Hid (h[x.val]=(y0,y1,y2,y3)):=hy
  have e21:h[x.val].2.1=y1:=by rw [hy]
  have HDead:Hid (endedIn h pre y1=true→livF h (pre++[x])=livF h pre):=fun he=>livF_snoc_dead h pre x (by rw [e21];exact he)
  have HLive:Hid (endedIn h pre y1=false→livF h (pre++[x])=livF h pre++[x]):=fun he=>livF_snoc h pre x (by rw [e21];exact he)
  have HE:Hid (endedIn h (pre++[x])=fun t=>(endedIn h pre t || decide (y1=t∧(y0=4∨y0=5)))):=by
   show _=_
   funext t
   rw [endedIn_snoc,hy]
  have ki:=key8i hgx.2.1
  rw [e21] at ki
  clear e21 hgx
  rw [hy] at hblk ⊢
  simp only at hblk
  clear hy
  have q0:=hblk.cell 0 _ rfl
  have q1:=hblk.cell 1 _ rfl
  have q2:=hblk.cell 2 _ rfl
  have q3:=hblk.cell 3 _ rfl
  obtain ⟨i,hxi⟩:∃ i,x.val=i:=⟨_,rfl⟩
  have HI:Hid (x.val=i):=hxi
  rw [hxi] at hxn ⊢
  clear hxi
  have c1:=hS.bb.cell
  obtain ⟨D,hown,hD⟩:=hS.bm
  have hDy:=hD y1
  have lenx:(pre++[x]).length=pre.length+1:=by simp
  have LX:Hid ((pre++[x]).length=pre.length+1):=lenx
  clear lenx
  have bU:=(Below.refl W.heap.size W).alloc (Nat.le_refl _) (.cells #[] 126)
  cases he:endedIn h pre y1 with
  | true =>
    rw [he] at hDy
    have HF:Hid (KeepsFrom W0.heap.size W (W.alloc (.cells #[] 126))∧KpE w0.heap.size (V.heap.size+1+1+1) W (W.alloc (.cells #[] 126))∧(J (livF h (pre++[x])) (W.alloc (.cells #[] 126))∧VSt V l (.slice a h.length cap) (pre++[x]).length (endedIn h (pre++[x])) (W.alloc (.cells #[] 126))∧Below V.heap.size V V)):=by
     refine ⟨(KeepsOthers.alloc _ _).from _,⟨bU.mono (by omega),bU.block _ (by omega)⟩,by rw [HDead.out he];exact own_step hJ hj bU,?_,Below.refl _ _⟩
     have hS':=hS.bel (bU.mono hsz)
     refine ⟨hS'.size,hS'.by_,?_,hS'.bb,hS'.be⟩
     rw [LX.out,HE.out]
     have e:(fun t=>(endedIn h pre t || decide (y1=t∧(y0=4∨y0=5))))=endedIn h pre:=by
      funext t
      by_cases ht:y1=t
      ·subst ht;rw [he];rfl
      ·rw [decide_eq_false (fun hh=>ht hh.1),Bool.or_false]
     rw [e]
     exact hS'.bm.mono (Nat.le_succ _)
    clear hS hj HDead HLive HE hY hJ hJx he
    gi_wp2_with (gi_at_lookup;refine wpListIn_lookup_own_unit _ rfl _ _ 136 rfl 3 126 law8i Tryz.underlying136 (zero8u _) (V.heap.size+1) pre.length D rfl hown _ _ rfl ki ?_;rw [hDy])
    exact HF.out
  | false =>
    rw [he] at hDy
    have C:=pends_any y0 y1 y2 y3 (W.alloc (.cells #[] 126))
    have q0':=cell_bel bU q0
    have q1':=cell_bel bU q1
    have q2':=cell_bel bU q2
    have q3':=cell_bel bU q3
    by_cases hm:y0=4∨y0=5
    ·rw [decide_eq_true hm] at C
     have HM:Hid (y0=4∨y0=5):=hm
     clear hm
     gi_wp2_with (first
      | (gi_at_lookup;refine wpListIn_lookup_own_unit _ rfl _ _ 136 rfl 3 126 law8i Tryz.underlying136 (zero8u _) (V.heap.size+1) pre.length D rfl hown _ _ rfl ki ?_;rw [hDy])
      | ((try refine ⟨trivial,?_⟩);gi_at_call 81;refine (CallsIn.inRound l' (callsIn_wide.2 C)).mono ?_;clear C;rintro e W1 ⟨rfl,b1⟩;refine Hid.out ?_))
     have bW1:Below W.heap.size W W1:=bU.trans (b1.mono (by simp))
     have s1:=bW1.size
     have hS1:=hS.bel (bW1.mono hsz)
     have x1:=hblk.below bW1
     have c2:=hS1.bb.cell
     have r0:=x1.cell 0 _ rfl
     have r1:=x1.cell 1 _ rfl
     have r2:=x1.cell 2 _ rfl
     have r3:=x1.cell 3 _ rfl
     obtain ⟨D1,hown1,hD1⟩:=hS1.bm
     have j1:J (livF h pre) W1:=own_step hJ hj bW1
     clear hD hown hDy q0 q1 q2 q3 q0' q1' q2' q3' c1
     refine Lib.hid ?_
     gi_wp2_with (gi_at_mapUpdate;refine wpListIn_mapUpdate_own _ rfl _ _ _ 136 rfl 3 126 law8i Tryz.underlying136 _ (V.heap.size+1) pre.length D1 rfl hown1 (by unfold maxLen;omega) _ _ _ rfl rfl ki _ [] unitElem_mk ?_;intro W2 hown2 hg2;refine Hid.out ?_)
     have hS2:VSt V l (.slice a h.length cap) (pre++[x]).length (endedIn h (pre++[x])) W2:=by
      have e:(fun t=>(endedIn h pre t || decide (y1=t∧(y0=4∨y0=5))))=fun t=>(endedIn h pre t || decide (y1=t)):=by
       funext t
       congr 1
       rw [decide_eq_decide]
       exact ⟨fun hh=>hh.1,fun hh=>⟨hh,HM.out⟩⟩
      rw [LX.out,HE.out,e]
      exact hS1.turn hg2 (ISet.put hD1 hown1.isMap y1 hown2)
     have j2:J (livF h pre) W2:=hJ _ _ _ _ j1 hg2 (fun r e=>by
      cases e
      obtain ⟨es,cl,hb,_⟩:=hown1
      exact ⟨by omega,_,hb,rfl⟩)
     have x2:SBox W2 Bx 49 _:=(hg2.block Bx x1.lt (by simp;omega)).trans x1
     have KK:KeepsFrom W0.heap.size W W2:=by
      have hw0:=HW0.out
      exact ((keeps_of_below bW1).from _).trans (KeepsFrom.of_grownBy hg2 (fun j e=>by cases e;omega))
     have BB:Below w0.heap.size W W2:=(bW1.mono (by omega)).grown hg2 (by omega) (fun k e=>by cases e;omega)
     have EB:W2.heap[V.heap.size+1+1+1]?=W.heap[V.heap.size+1+1+1]?:=(hg2.block _ (by omega) (fun e=>by have:=Option.some.inj e;omega)).trans (bW1.block _ (by omega))
     clear hS1 j1 x1 bW1 b1 c2 r0 r1 r2 r3 hown1 hD1 hown2 hg2 hS hj bU HM
     obtain ⟨fn,tmps,assign,body,hy,hR⟩:=yield_any (5 - 1 - 1 - 1) (hY _ x W2 j2 (by have:=livF_len h pre;omega) hS2.size)
     have hyx:=HY.out
     have hix:=HI.out
     simp only [ixV,evW,hyx] at hy
     rw [hix] at hy
     clear hyx hix
     have r0:=x2.cell 0 _ rfl
     have r1:=x2.cell 1 _ rfl
     have r2:=x2.cell 2 _ rfl
     have r3:=x2.cell 3 _ rfl
     have cy:=hS2.by_.cell
     refine Lib.hid ?_
     gi_wp2
     refine RoundIn.mono (show RoundIn (Fence.wide.inRound l') _ _ _ _ _ _ _ _ _ from hR) ?_
     rintro e W3 (⟨rfl,hJ3,hk3,hf3⟩ | ⟨rfl,hJx3,hf3⟩)
     ·have HF:Hid (KeepsFrom W0.heap.size W W3∧KpE w0.heap.size (V.heap.size+1+1+1) W W3∧(J (livF h (pre++[x])) W3∧VSt V l (.slice a h.length cap) (pre++[x]).length (endedIn h (pre++[x])) W3∧Below V.heap.size V V)):=by
       have hw0:=HW0.out
       refine ⟨KK.trans (keeps_far hf3 (by omega)),⟨BB.trans hk3.below,(hk3.own _ (by omega) (by omega)).trans EB⟩,by rw [HLive.out he];exact hJ3,hS2.own hf3.size (fun j h1 h2=>hk3.own j h1 h2),Below.refl _ _⟩
      clear hS2 hk3 hf3 hJ3 HLive HE hY hJ hJx he
      gi_wp2
      exact HF.out
     ·have hlv:=HLive.out he
      have hw0:=HW0.out
      have HF:Hid (KeepsFrom W0.heap.size W W3∧Jx (livF h (pre++[x])) W3):=⟨KK.trans (keeps_far hf3 (by omega)),by rw [hlv];exact hJx3⟩
      clear hS2 hf3 hJx3 HLive HE hY hJ hJx he hlv hw0
      gi_wp2
      exact ⟨HF.out.1,rfl,HF.out.2⟩
    ·rw [decide_eq_false hm] at C
     have HM:Hid (¬ (y0=4∨y0=5)):=hm
     clear hm
     gi_wp2_with (first
      | (gi_at_lookup;refine wpListIn_lookup_own_unit _ rfl _ _ 136 rfl 3 126 law8i Tryz.underlying136 (zero8u _) (V.heap.size+1) pre.length D rfl hown _ _ rfl ki ?_;rw [hDy])
      | ((try refine ⟨trivial,?_⟩);gi_at_call 81;refine (CallsIn.inRound l' (callsIn_wide.2 C)).mono ?_;clear C;rintro e W2 ⟨rfl,b1⟩;refine Hid.out ?_))
     have bW1:Below W.heap.size W W2:=bU.trans (b1.mono (by simp))
     have s1:=bW1.size
     have hS2:VSt V l (.slice a h.length cap) (pre++[x]).length (endedIn h (pre++[x])) W2:=by
      have e:(fun t=>(endedIn h pre t || decide (y1=t∧(y0=4∨y0=5))))=endedIn h pre:=by
       funext t
       rw [decide_eq_false (fun hh=>HM.out hh.2),Bool.or_false]
      have hS1:=hS.bel (bW1.mono hsz)
      rw [LX.out,HE.out,e]
      exact ⟨hS1.size,hS1.by_,hS1.bm.mono (Nat.le_succ _),hS1.bb,hS1.be⟩
     have j2:J (livF h pre) W2:=own_step hJ hj bW1
     have x2:SBox W2 Bx 49 _:=hblk.below bW1
     have KK:KeepsFrom W0.heap.size W W2:=(keeps_of_below bW1).from _
     have BB:Below w0.heap.size W W2:=bW1.mono (by omega)
     have EB:W2.heap[V.heap.size+1+1+1]?=W.heap[V.heap.size+1+1+1]?:=bW1.block _ (by omega)
     clear hD hown hDy q0 q1 q2 q3 q0' q1' q2' q3' c1 bW1 b1 hS hj bU HM
     obtain ⟨fn,tmps,assign,body,hy,hR⟩:=yield_any (5 - 1 - 1 - 1) (hY _ x W2 j2 (by have:=livF_len h pre;omega) hS2.size)
     have hyx:=HY.out
     have hix:=HI.out
     simp only [ixV,evW,hyx] at hy
     rw [hix] at hy
     clear hyx hix
     have r0:=x2.cell 0 _ rfl
     have r1:=x2.cell 1 _ rfl
     have r2:=x2.cell 2 _ rfl
     have r3:=x2.cell 3 _ rfl
     have cy:=hS2.by_.cell
     refine Lib.hid ?_
     gi_wp2
     refine RoundIn.mono (show RoundIn (Fence.wide.inRound l') _ _ _ _ _ _ _ _ _ from hR) ?_
     rintro e W3 (⟨rfl,hJ3,hk3,hf3⟩ | ⟨rfl,hJx3,hf3⟩)
     ·have HF:Hid (KeepsFrom W0.heap.size W W3∧KpE w0.heap.size (V.heap.size+1+1+1) W W3∧(J (livF h (pre++[x])) W3∧VSt V l (.slice a h.length cap) (pre++[x]).length (endedIn h (pre++[x])) W3∧Below V.heap.size V V)):=by
       have hw0:=HW0.out
       refine ⟨KK.trans (keeps_far hf3 (by omega)),⟨BB.trans hk3.below,(hk3.own _ (by omega) (by omega)).trans EB⟩,by rw [HLive.out he];exact hJ3,hS2.own hf3.size (fun j h1 h2=>hk3.own j h1 h2),Below.refl _ _⟩
      clear hS2 hk3 hf3 hJ3 HLive HE hY hJ hJx he
      gi_wp2
      exact HF.out
     ·have hlv:=HLive.out he
      have hw0:=HW0.out
      have HF:Hid (KeepsFrom W0.heap.size W W3∧Jx (livF h (pre++[x])) W3):=⟨KK.trans (keeps_far hf3 (by omega)),by rw [hlv];exact hJx3⟩
      clear hS2 hf3 hJx3 HLive HE hY hJ hJx he hlv hw0
      gi_wp2
      exact ⟨HF.out.1,rfl,HF.out.2⟩
 case done =>
  rintro D ys W hD rfl ⟨hj,hS,_⟩ hK
  have HD:Hid (V.heap.size+1+1+1+1≤D):=by rw [sW0] at hD;exact hD
  clear sW0 hS0 hD
  gi_wp2
  refine ⟨by simp,.inl ⟨_,_,rfl,run_takeDeferred hK,?_⟩⟩
  exact ⟨_,results_none rfl _ _ _,⟨_,rfl⟩,.inl ⟨_,rfl,hJ.putObj _ hj (by have:=HD.out;omega) hK rfl⟩⟩
 case stop =>
  rintro D c pre W hD hSp ⟨rfl,hj⟩ hK
  have HD:Hid (V.heap.size+1+1+1+1≤D):=by rw [sW0] at hD;exact hD
  clear sW0 hS0 hD
  gi_wp2
  refine ⟨by simp,.inl ⟨_,_,rfl,run_takeDeferred hK,?_⟩⟩
  exact ⟨_,results_none rfl _ _ _,⟨_,rfl⟩,.inr ⟨_,livF_prefix h hSp,hJx.putObj _ hj (by have:=HD.out;omega) hK rfl⟩⟩
theorem living8_stops (h:List Ev) (w0:World) (a:Option Addr) (cap:Nat) (hT:IsEvs w0 (.slice a h.length cap) h) (hG:∀ x∈h,goodE x) (hn:h.length≤300) (bh k l:Nat) (w V:World) (hW:Below w0.heap.size w0 w) (hbox:Boxed w bh 22 (.slice a h.length cap)) (hV:Below w.heap.size w V) :
 SeqStopsW Fence.wide k Tryz.prog 104 #[.pointer (some ⟨bh,0,none⟩)] (fun x:Fin h.length=>ixV h x) (KpL w0.heap.size bh V.heap.size) (fun ys=>ys=livP h) (fun pre=>pre <+: livP h) h.length (V.heap.size+1+1+1+1) l V :=
 fun J Jx hJ hJx hY h0=>living8_in h w0 a cap hT hG hn bh k l V (hW.trans (hV.mono hW.size)) (boxed_below7 hbox hV) J Jx hJ hJx hY h0
end Go.Proofs.YtdlcimfifkhllaaGreat
namespace Go.Proofs.YtdlcimfifkhllaaGreat
set_option maxRecDepth 100000
open Go.RowKit Go.Shelf Go.Maps
set_option linter.unusedVariables false
structure ZSt (w:World) (t0:TypeId) (v0:Value) (t1 e k:Nat) (sl v:Value) (m:Nat) (f:Int→Option Int) (n:Nat) (xs:List Value) (W:World):Prop where
 below:Below w.heap.size w W
 size:w.heap.size+1+1+1+1+1≤W.heap.size
 b0:Boxed W (w.heap.size) t0 v0
 bv:Boxed W (w.heap.size+1) t1 v
 bm:IMap W (w.heap.size+1+1) m f
 bb:Boxed W (w.heap.size+1+1+1) 61 (.map (some (w.heap.size+1+1)))
 be:Boxed W (w.heap.size+1+1+1+1) 22 sl
 row:W.ownsRow w.heap.size e k v n xs
 far:∀ g,v.ownBlock=some g→w.heap.size+1+1+1+1+1+1+1+1+1+1+1≤g
section
variable {w:World} {t0:TypeId} {v0:Value} {t1 e k:Nat} {sl v:Value} {m:Nat} {f:Int→Option Int} {n:Nat} {xs:List Value} {W W':World} {row:Option Nat}
theorem ZSt.turn (h:ZSt w t0 v0 t1 e k sl v m f n xs W) (hg:W.grownBy W' row) (hr:∀ r,row=some r→w.heap.size+1+1+1+1+1≤r∧∃ o:Obj,W.heap[r]?=some o∧o.isCells=false):ZSt w t0 v0 t1 e k sl v m f n xs W':=by
 have o:∀ j,j < w.heap.size+1+1+1+1+1→some j≠row:=fun j hj e=>by have:=(hr j e.symm).1;omega
 exact ⟨h.below.grown hg (by have:=h.size;omega) (fun r e=>by have:=(hr r e).1;omega),Nat.le_trans h.size hg.size,h.b0.kept hg (o _ (by omega)),h.bv.kept hg (o _ (by omega)),h.bm.kept hg (o _ (by omega)),h.bb.kept hg (o _ (by omega)),h.be.kept hg (o _ (by omega)),owns_turn h.row hg (fun r e=>(hr r e).2),h.far⟩
theorem ZSt.bel (h:ZSt w t0 v0 t1 e k sl v m f n xs W) (hb:Below W.heap.size W W'):ZSt w t0 v0 t1 e k sl v m f n xs W':=h.turn (grown_below8 none hb) (fun r e=>by cases e)
theorem ZSt.map {m':Nat} {f':Int→Option Int} (h:ZSt w t0 v0 t1 e k sl v m f n xs W) (hg:W.grownBy W' (some (w.heap.size+1+1))) (hf:IMap W' (w.heap.size+1+1) m' f'):ZSt w t0 v0 t1 e k sl v m' f' n xs W':=by
 have o:∀ j,j≠w.heap.size+1+1→some j≠some (w.heap.size+1+1):=fun j hj e=>hj (Option.some.inj e)
 refine ⟨h.below.grown hg (by have:=h.size;omega) (fun r e=>by cases e;omega),Nat.le_trans h.size hg.size,h.b0.kept hg (o _ (by omega)),h.bv.kept hg (o _ (by omega)),hf,h.bb.kept hg (o _ (by omega)),h.be.kept hg (o _ (by omega)),h.row.kept hg ?_,h.far⟩
 cases hv:v.ownBlock with
 | none=>exact .inl rfl
 | some g=>exact .inr (fun e=>by have:=h.far g hv;have:=Option.some.inj e;omega)
theorem ZSt.keep (h:ZSt w t0 v0 t1 e k sl v m f n xs W) {m':Nat} {f':Int→Option Int} (hm:m≤m') (hf:f'=f):ZSt w t0 v0 t1 e k sl v m' f' n xs W:=by
 rw [hf]
 exact ⟨h.below,h.size,h.b0,h.bv,h.bm.mono hm,h.bb,h.be,h.row,h.far⟩
theorem ZSt.app {v':Value} {n':Nat} {ys:List Value} {tmp:Obj} (h:ZSt w t0 v0 t1 e k sl v m f n xs W) (hs:w.heap.size+1+1+1+1+1+1+1+1+1+1+1≤W.heap.size) (hown:W'.ownsRow w.heap.size e k v' n' ys) (hg:(W.alloc tmp).grownBy W' v.ownBlock) (hat:v'.ownBlock=v.ownBlock∨v'.ownBlock=some (W.heap.size+1)) :
 ZSt w t0 v0 t1 e k sl v' m f n' ys (W'.setCell ⟨w.heap.size+1,0,none⟩ v'):=by
 have hfar:∀ g,v'.ownBlock=some g→w.heap.size+1+1+1+1+1+1+1+1+1+1+1≤g:=fun g hv=>by
  rcases hat with e | e
  ·exact h.far g (by rw [← e];exact hv)
  ·rw [hv] at e
   have:=Option.some.inj e
   omega
 have o:∀ j,j < w.heap.size+1+1+1+1+1→some j≠v.ownBlock:=fun j hj e=>by have:=h.far j e.symm;omega
 have hsz:=hg.size
 rw [World.size_alloc] at hsz
 have hb:Below w.heap.size w W':=(h.below.alloc h.below.size _).grown hg (by simp;have:=h.size;omega) (fun r e=>by have:=h.far r e;omega)
 refine ⟨hb.setCell (p:=⟨w.heap.size+1,0,none⟩) (by first | (simp;done) | (simp;omega)) _,by simp;omega,((h.b0.alloc _).kept hg (o _ (by omega))).other (by omega) _,((h.bv.alloc _).kept hg (o _ (by omega))).set _,?_,((h.bb.alloc _).kept hg (o _ (by omega))).other (by omega) _,((h.be.alloc _).kept hg (o _ (by omega))).other (by omega) _,owns_keep7 (g:=w.heap.size+1) (j:=0) hown _ (fun e=>by have:=hfar _ e.symm;omega),hfar⟩
 refine IMap.same (W:=W') ((h.bm.kept (World.grownBy_alloc _ tmp none) (by simp)).kept hg (o _ (by omega))) ?_
 exact Below.heap_setCell _ _ _ _ (by simp)
end
theorem kpL_grown {n b A:Nat} {W W':World} {row:Option Nat} (hn:n≤W.heap.size) (hb:b < W.heap.size) (hA:A+1+1+1+1≤W.heap.size) (hg:W.grownBy W' row) (hr:∀ r,row=some r→n≤r∧r≠b∧(r < A∨A+1+1+1+1≤r)):KpL n b A W W' :=
 ⟨(Below.refl n W).grown hg hn (fun r e=>(hr r e).1),hg.block b hb (fun e=>(hr b e.symm).2.1 rfl),fun j h1 h2=>hg.block j (by omega) (fun e=>by have:=(hr j e.symm).2.2;omega)⟩
theorem kpL_bel {n b A:Nat} {W W':World} (hn:n≤W.heap.size) (hb:b < W.heap.size) (hA:A+1+1+1+1≤W.heap.size) (h:Below W.heap.size W W'):KpL n b A W W':=kpL_grown hn hb hA (grown_below8 none h) (fun r e=>by cases e)
theorem kpL_put {n b A l:Nat} {W:World} (hn:n≤l) (hb:b < l) (hl:l < A) (o:Loop) (h:W.heap[l]?=some (.loop o)) (o':Loop):KpL n b A W (W.putObj l (.loop o')):=by
 have hlt:l < W.heap.size:=(Array.getElem?_eq_some_iff.1 h).1
 refine ⟨(Below.refl n W).grown (grownBy_putObj' W l _) (by omega) (fun r e=>by cases e;exact hn),World.putObj_heap_other (by omega),fun j h1 h2=>World.putObj_heap_other (by omega)⟩
end Go.Proofs.YtdlcimfifkhllaaGreat
namespace Go.Proofs.YtdlcimfifkhllaaGreat
set_option maxRecDepth 100000
set_option linter.unusedVariables false
def nf:List Lf→Int→Option Nat
 | [],_=>none
 | y::L,t=>if y.1=t then some 0 else (nf L t).map (·+ 1)
theorem nf_snoc (y:Lf):∀ (L:List Lf) (t:Int),nf (L++[y]) t=(nf L t).or (if y.1=t then some L.length else none)
 | [],t=>by
   show nf [y] t=_
   rw [nf,nf,nf]
   by_cases h:y.1=t
   ·rw [if_pos h,if_pos h];rfl
   ·rw [if_neg h,if_neg h];rfl
 | z::L,t=>by
   show nf (z::(L++[y])) t=_
   rw [nf,nf,nf_snoc y L t]
   by_cases h:z.1=t
   ·rw [if_pos h,if_pos h];rfl
   ·rw [if_neg h,if_neg h]
    cases nf L t with
    | none=>by_cases h2:y.1=t<;>simp [h2]
    | some m=>simp
theorem nf_some:∀ (L:List Lf) (t:Int) (m:Nat),nf L t=some m→∃ h:m < L.length,L[m].1=t
 | [],t,m,h=>by cases h
 | z::L,t,m,h=>by
   rw [nf] at h
   by_cases hz:z.1=t
   ·rw [if_pos hz] at h
    cases h
    exact ⟨by simp,hz⟩
   ·rw [if_neg hz] at h
    cases hn:nf L t with
    | none=>rw [hn] at h;cases h
    | some q =>
      rw [hn] at h
      cases h
      obtain ⟨h1,h2⟩:=nf_some L t q hn
      exact ⟨by simp;omega,by simpa using h2⟩
theorem nf_none:∀ (L:List Lf) (t:Int),nf L t=none↔∀ y∈L,y.1≠t
 | [],t=>by simp [nf]
 | z::L,t=>by
   rw [nf]
   by_cases hz:z.1=t
   ·rw [if_pos hz];simp [hz]
   ·rw [if_neg hz,Option.map_eq_none_iff,nf_none L t];simp [hz]
theorem nf_set:∀ (L:List Lf) (m:Nat) (y:Lf) (t:Int),(∀ h:m < L.length,L[m].1=y.1)→nf (L.set m y) t=nf L t
 | [],m,y,t,_=>rfl
 | z::L,0,y,t,h=>by
   have:=h (by simp)
   simp only [List.getElem_cons_zero] at this
   rw [List.set_cons_zero,nf,nf,this]
 | z::L,m+1,y,t,h=>by
   rw [List.set_cons_succ,nf,nf,nf_set L m y t (fun hm=>by have:=h (by simpa using hm);simpa using this)]
def newL (h:List Ev) (L:List Lf) (x:Fin h.length):List Lf:=if nf L h[x.val].2.1=none then L++[(h[x.val].2.1,x.val,h.length,false)] else L
def numL8 (h:List Ev) (L:List Lf) (x:Fin h.length):Nat:=(nf L h[x.val].2.1).getD L.length
def endS (L:List Lf) (m i:Nat) (b:Bool):List Lf:=L.set m ((L.getD m (0,0,0,false)).1,(L.getD m (0,0,0,false)).2.1,i,b)
def livS (h:List Ev) (L:List Lf) (x:Fin h.length):List Lf:=if endE h[x.val] then endS (newL h L x) (numL8 h L x) x.val (decide (h[x.val].1=4)) else newL h L x
def lvF (h:List Ev) (pre:List (Fin h.length)):List Lf:=pre.foldl (livS h) []
theorem lvF_snoc (h:List Ev) (pre:List (Fin h.length)) (x:Fin h.length):lvF h (pre++[x])=livS h (lvF h pre) x:=by
 unfold lvF
 rw [List.foldl_append]
 rfl
theorem endS_len (L:List Lf) (m i:Nat) (b:Bool):(endS L m i b).length=L.length:=by unfold endS;rw [List.length_set]
theorem endS_nf (L:List Lf) (m i:Nat) (b:Bool) (t:Int):nf (endS L m i b) t=nf L t:=nf_set L m _ t (fun h=>by rw [List.getD_eq_getElem?_getD,List.getElem?_eq_getElem h];rfl)
theorem new_len (h:List Ev) (L:List Lf) (x:Fin h.length):(newL h L x).length≤L.length+1:=by
 unfold newL
 by_cases hn:nf L h[x.val].2.1=none
 ·rw [if_pos hn];simp
 ·rw [if_neg hn];omega
theorem liv_len (h:List Ev) (L:List Lf) (x:Fin h.length):(livS h L x).length≤L.length+1:=by
 unfold livS
 have:=new_len h L x
 by_cases he:endE h[x.val]
 ·rw [if_pos he,endS_len];exact this
 ·rw [if_neg he];exact this
def fstS (h:List Ev) (k:Nat):List Nat:=(List.range k).filter fun i=>decide (fstL h (ev h i).2.1 i=none)
def lifTo (h:List Ev) (k i:Nat):Lf:=match endL h (ev h i).2.1 k with
 | none=>((ev h i).2.1,i,h.length,false)
 | some e=>((ev h i).2.1,i,e,decide ((ev h e).1=4))
def livTo (h:List Ev) (k:Nat):List Lf:=(fstS h k).map (lifTo h k)
theorem lifTo_fst (h:List Ev) (k i:Nat):(lifTo h k i).1=(ev h i).2.1:=by unfold lifTo;cases endL h (ev h i).2.1 k<;>rfl
theorem endL_grow {h:List Ev} {t:Int} {k e:Nat} (he:endL h t k=some e):endL h t (k+1)=some e:=by
 rw [endL_some] at he ⊢
 exact ⟨by omega,he.2⟩
theorem endL_other {h:List Ev} {t:Int} {k:Nat} (hn:(ev h k).2.1≠t):endL h t (k+1)=endL h t k:=by
 cases he:endL h t k with
 | some e=>exact endL_grow he
 | none=>exact endL_skip h t k he (fun hh=>hn hh.1)
theorem lifTo_other {h:List Ev} {k i:Nat} (hn:(ev h k).2.1≠(ev h i).2.1):lifTo h (k+1) i=lifTo h k i:=by unfold lifTo;rw [endL_other hn]
theorem lifTo_dead {h:List Ev} {k i e:Nat} (he:endL h (ev h i).2.1 k=some e):lifTo h (k+1) i=lifTo h k i:=by unfold lifTo;rw [endL_grow he,he]
theorem fstS_mem {h:List Ev} {k i:Nat}:i∈fstS h k↔i < k∧fstL h (ev h i).2.1 i=none:=by
 unfold fstS
 rw [List.mem_filter,List.mem_range,decide_eq_true_eq]
theorem fstS_one {h:List Ev} {k i j:Nat} (hi:i∈fstS h k) (hj:j∈fstS h k) (he:(ev h i).2.1=(ev h j).2.1):i=j:=by
 obtain ⟨i1,i2⟩:=fstS_mem.1 hi
 obtain ⟨j1,j2⟩:=fstS_mem.1 hj
 rcases Nat.lt_trichotomy i j with hl | hl | hl
 ·exact absurd he ((fstL_none h _ _).1 j2 i hl)
 ·exact hl
 ·exact absurd he.symm ((fstL_none h _ _).1 i2 j hl)
theorem fstS_next (h:List Ev) (k:Nat):fstS h (k+1)=fstS h k++if fstL h (ev h k).2.1 k=none then [k] else []:=by
 unfold fstS
 rw [List.range_succ,List.filter_append]
 congr 1
 by_cases hf:fstL h (ev h k).2.1 k=none
 ·rw [if_pos hf,List.filter_cons_of_pos (by rw [decide_eq_true_eq];exact hf)];rfl
 ·rw [if_neg hf,List.filter_cons_of_neg (by rw [decide_eq_true_eq];exact hf)];rfl
theorem fstS_inj (h:List Ev) (k m j:Nat) (hm:m < (fstS h k).length) (hj:j < (fstS h k).length) (he:(fstS h k)[m]=(fstS h k)[j]):m=j:=by
 have hp:(fstS h k).Pairwise (·< ·):=List.Pairwise.filter _ List.pairwise_lt_range
 rw [List.pairwise_iff_getElem] at hp
 rcases Nat.lt_trichotomy m j with hl | hl | hl
 ·have:=hp m j hm hj hl;omega
 ·exact hl
 ·have:=hp j m hj hm hl;omega
theorem fm_congr {α β:Type} {f g:α→Option β}:∀ {l:List α},(∀ i∈l,f i=g i)→l.filterMap f=l.filterMap g
 | [],_=>rfl
 | a::l,hh=>by
   rw [List.filterMap_cons,List.filterMap_cons,hh a (by simp),fm_congr (fun i hi=>hh i (by simp [hi]))]
theorem livTo_nf (h:List Ev) (k:Nat) (t:Int):nf (livTo h k) t=none↔fstL h t k=none:=by
 rw [nf_none]
 constructor
 ·intro hh
  cases hf:fstL h t k with
  | none=>rfl
  | some f =>
    obtain ⟨f1,f2,f3⟩:=(fstL_some h t k f).1 hf
    have hm:lifTo h k f∈livTo h k:=List.mem_map.2 ⟨f,fstS_mem.2 ⟨f1,(fstL_none h _ _).2 (by rw [f2];exact f3)⟩,rfl⟩
    exact absurd ((lifTo_fst h k f).trans f2) (hh _ hm)
 ·intro hf y hy
  obtain ⟨i,hi,rfl⟩:=List.mem_map.1 hy
  obtain ⟨i1,i2⟩:=fstS_mem.1 hi
  rw [lifTo_fst]
  exact (fstL_none h t k).1 hf i i1
theorem lives_take (h:List Ev):∀ k,k≤h.length→lvF h (livF h ((List.finRange h.length).take k))=livTo h k
 | 0,_=>rfl
 | k+1,hk=>by
   have ih:=lives_take h k (by omega)
   have hk':k < h.length:=by omega
   rw [fin_take hk']
   have hd:=endedIn_take h k (by omega) h[k].2.1
   have ek:=ev_get h k hk'
   cases he:endL h h[k].2.1 k with
   | some e =>
     rw [he] at hd
     rw [livF_snoc_dead h _ ⟨k,hk'⟩ hd,ih]
     obtain ⟨e1,e2,e3⟩:=(endL_some h _ _ _).1 he
     have hf:¬ fstL h (ev h k).2.1 k=none:=by
      intro hf
      rw [ek] at hf
      exact (fstL_none h _ _).1 hf e e1 e2.1
     unfold livTo
     rw [fstS_next,if_neg hf,List.append_nil]
     apply List.map_congr_left
     intro i hi
     by_cases hn:(ev h k).2.1=(ev h i).2.1
     ·exact (lifTo_dead (e:=e) (by rw [← hn,ek];exact he)).symm
     ·exact (lifTo_other hn).symm
   | none =>
     rw [he] at hd
     rw [livF_snoc h _ ⟨k,hk'⟩ hd,lvF_snoc,ih]
     by_cases hf:fstL h (ev h k).2.1 k=none
     ·have hnf:nf (livTo h k) h[k].2.1=none:=(livTo_nf h k _).2 (by rw [← ek];exact hf)
      have hnew:newL h (livTo h k) ⟨k,hk'⟩=livTo h k++[(h[k].2.1,k,h.length,false)]:=by unfold newL;rw [if_pos hnf]
      have hold:(fstS h k).map (lifTo h (k+1))=livTo h k:=by
       apply List.map_congr_left
       intro i hi
       obtain ⟨i1,i2⟩:=fstS_mem.1 hi
       exact lifTo_other (fun hh=>(fstL_none h _ _).1 hf i i1 hh.symm)
      have hnum:numL8 h (livTo h k) ⟨k,hk'⟩=(livTo h k).length:=by unfold numL8;rw [hnf];rfl
      have hR:livTo h (k+1)=livTo h k++[lifTo h (k+1) k]:=by
       show (fstS h (k+1)).map (lifTo h (k+1))=_
       rw [fstS_next,if_pos hf,List.map_append,hold]
       rfl
      rw [hR]
      unfold livS
      rw [hnew,hnum]
      by_cases hn:endE h[k]
      ·have hE:lifTo h (k+1) k=(h[k].2.1,k,k,decide (h[k].1=4)):=by
        unfold lifTo
        rw [ek,(endL_some h _ _ _).2 ⟨by omega,⟨by rw [ek],by rw [ek];exact hn⟩,(endL_none h _ _).1 he⟩]
        simp only [ek]
       rw [if_pos hn,hE]
       unfold endS
       rw [List.set_append_right _ _ (Nat.le_refl _),Nat.sub_self,List.set_cons_zero]
       simp
      ·have hE:lifTo h (k+1) k=(h[k].2.1,k,h.length,false):=by
        unfold lifTo
        rw [ek,endL_skip h _ k he (fun hh=>hn (by rw [← ek];exact hh.2))]
       rw [if_neg hn,hE]
     ·have hnf:nf (livTo h k) h[k].2.1≠none:=fun hh=>hf (by rw [ek];exact (livTo_nf h k _).1 hh)
      have hnew:newL h (livTo h k) ⟨k,hk'⟩=livTo h k:=by unfold newL;rw [if_neg hnf]
      have hR:livTo h (k+1)=(fstS h k).map (lifTo h (k+1)):=by
       show (fstS h (k+1)).map (lifTo h (k+1))=_
       rw [fstS_next,if_neg hf,List.append_nil]
      unfold livS
      rw [hnew,hR]
      by_cases hn:endE h[k]
      ·rw [if_pos hn]
       cases hm:nf (livTo h k) h[k].2.1 with
       | none=>exact absurd hm hnf
       | some m =>
         obtain ⟨m1,m2⟩:=nf_some _ _ _ hm
         have hnum:numL8 h (livTo h k) ⟨k,hk'⟩=m:=by unfold numL8;rw [hm];rfl
         have ml:m < (fstS h k).length:=by unfold livTo at m1;rwa [List.length_map] at m1
         have mg:(livTo h k)[m]=lifTo h k (fstS h k)[m]:=List.getElem_map (lifTo h k)
         rw [mg,lifTo_fst] at m2
         rw [hnum]
         unfold endS
         have hgd:(livTo h k).getD m (0,0,0,false)=lifTo h k (fstS h k)[m]:=by rw [List.getD_eq_getElem?_getD,List.getElem?_eq_getElem m1,mg];rfl
         rw [hgd]
         apply List.ext_getElem
         ·rw [List.length_set,List.length_map];unfold livTo;rw [List.length_map]
         ·intro j j1 j2
          rw [List.getElem_set,List.getElem_map]
          by_cases hj:m=j
          ·subst hj
           rw [if_pos rfl]
           have hE:lifTo h (k+1) (fstS h k)[m]=(h[k].2.1,(fstS h k)[m],k,decide (h[k].1=4)):=by
            unfold lifTo
            rw [m2,(endL_some h _ _ _).2 ⟨by omega,⟨by rw [ek],by rw [ek];exact hn⟩,(endL_none h _ _).1 he⟩]
            simp only [ek]
           rw [hE]
           have hO:lifTo h k (fstS h k)[m]=(h[k].2.1,(fstS h k)[m],h.length,false):=by
            unfold lifTo
            rw [m2,he]
           rw [hO]
          ·rw [if_neg hj]
           have jl:j < (fstS h k).length:=by simpa using j2
           have hg:(livTo h k)[j]'(by unfold livTo;simpa using j2)=lifTo h k (fstS h k)[j]:=List.getElem_map (lifTo h k)
           rw [hg]
           refine (lifTo_other (fun hh=>hj ?_)).symm
           have hsame:(fstS h k)[m]=(fstS h k)[j]:=fstS_one (k:=k) (List.getElem_mem _) (List.getElem_mem _) (by rw [m2,← hh,ek])
           exact fstS_inj h k m j ml jl hsame
      ·rw [if_neg hn]
       unfold livTo
       apply List.map_congr_left
       intro i hi
       by_cases hx:(ev h k).2.1=(ev h i).2.1
       ·unfold lifTo
        rw [← hx,ek,he,endL_skip h _ k he (fun hh=>hn (by rw [← ek];exact hh.2))]
       ·exact (lifTo_other hx).symm
theorem lives_liv (h:List Ev):lvF h (livP h)=livesL h:=by
 have h1:=lives_take h h.length (Nat.le_refl _)
 rw [List.take_of_length_le (by rw [List.length_finRange];exact Nat.le_refl _)] at h1
 show lvF h (livF h _)=_
 rw [h1]
 unfold livTo livesL fstS
 rw [← List.filterMap_eq_filter,List.map_filterMap]
 apply fm_congr
 intro i hi
 have hil:=List.mem_range.1 hi
 simp only [Option.guard]
 by_cases hf:fstL h (ev h i).2.1 i=none
 ·have hfn:fstL h (ev h i).2.1 h.length=some i:=(fstL_some h _ _ _).2 ⟨hil,rfl,(fstL_none h _ _).1 hf⟩
  rw [if_pos hf]
  unfold findL
  rw [hfn]
  simp only [hf]
  unfold lifTo
  cases he:endL h (ev h i).2.1 h.length<;>simp [he]
 ·rw [if_neg hf]
  simp [hf]
theorem lvF_len (h:List Ev):∀ (pre:List (Fin h.length)) (L:List Lf),(pre.foldl (livS h) L).length≤L.length+pre.length
 | [],L=>Nat.le_refl _
 | x::pre,L=>by
   have h1:=lvF_len h pre (livS h L x)
   have h2:=liv_len h L x
   rw [List.foldl_cons,List.length_cons]
   omega
theorem lvF_few (h:List Ev) (pre:List (Fin h.length)):(lvF h pre).length≤pre.length:=by have:=lvF_len h pre [];simpa [lvF] using this
open Go.Shelf
def lays189I_ren:Go.Shelf.Ren:=⟨fun | 189=>56 | 125=>89 | 257=>88 | 128=>117 | 129=>118 | 294=>108 | 295=>109 | 296=>110 | 297=>111 | 298=>112 | 299=>113 | 216=>114 | 300=>115 | 301=>116 | 328=>122 | 329=>123 | 330=>124 | 331=>125 | 332=>126 | 215=>127 | 343=>137 | n=>n,fun | 28=>23 | 9=>9 | 3=>3 | 46=>121 | 0=>0 | 51=>147 | 53=>149 | 4=>4 | 183=>140 | 182=>139 | 131=>113 | 5=>5 | 218=>152 | 222=>156 | 228=>163 | 229=>37 | n=>n,fun | n=>n⟩
theorem lays189I:Go.Proofs.Lays.n189 Tryz.prog lays189I_ren:={
 mixed:=by kernel_rfl
 f125:=Tryz.func89.trans (congrArg some (by kernel_rfl))
 f128:=Tryz.func117.trans (congrArg some (by kernel_rfl))
 f129:=Tryz.func118.trans (congrArg some (by kernel_rfl))
 f189:=Tryz.func56.trans (congrArg some (by kernel_rfl))
 f257:=Tryz.func88.trans (congrArg some (by kernel_rfl))
 f294:=Tryz.func108.trans (congrArg some (by kernel_rfl))
 f295:=Tryz.func109.trans (congrArg some (by kernel_rfl))
 f296:=Tryz.func110.trans (congrArg some (by kernel_rfl))
 f297:=Tryz.func111.trans (congrArg some (by kernel_rfl))
 f298:=Tryz.func112.trans (congrArg some (by kernel_rfl))
 f299:=Tryz.func113.trans (congrArg some (by kernel_rfl))
 f216:=Tryz.func114.trans (congrArg some (by kernel_rfl))
 f300:=Tryz.func115.trans (congrArg some (by kernel_rfl))
 f301:=Tryz.func116.trans (congrArg some (by kernel_rfl))
 f329:=Tryz.func123.trans (congrArg some (by kernel_rfl))
 f330:=Tryz.func124.trans (congrArg some (by kernel_rfl))
 f328:=Tryz.func122.trans (congrArg some (by kernel_rfl))
 f331:=Tryz.func125.trans (congrArg some (by kernel_rfl))
 f332:=Tryz.func126.trans (congrArg some (by kernel_rfl))
 f215:=Tryz.func127.trans (congrArg some (by kernel_rfl))
 f343:=Tryz.func137.trans (congrArg some (by kernel_rfl))
 t0:=Tryz.underlying0
 a0:=Tryz.isAgg0
 z0:=Tryz.sizeOf0
 v0:=Tryz.zeroValue0
 t3:=Tryz.underlying3
 a3:=Tryz.isAgg3
 z3:=Tryz.sizeOf3
 v3:=Tryz.zeroValue3
 t4:=Tryz.underlying4
 a4:=Tryz.isAgg4
 z4:=Tryz.sizeOf4
 v4:=Tryz.zeroValue4
 t5:=Tryz.underlying5
 a5:=Tryz.isAgg5
 z5:=Tryz.sizeOf5
 v5:=Tryz.zeroValue5
 t9:=Tryz.underlying9
 a9:=Tryz.isAgg9
 z9:=Tryz.sizeOf9
 v9:=Tryz.zeroValue9
 t28:=Tryz.underlying23
 a28:=Tryz.isAgg23
 z28:=Tryz.sizeOf23
 v28:=Tryz.zeroValue23
 t46:=Tryz.underlying121
 a46:=Tryz.isAgg121
 z46:=Tryz.sizeOf121
 v46:=Tryz.zeroValue121
 t51:=Tryz.underlying147
 a51:=Tryz.isAgg147
 z51:=Tryz.sizeOf147
 v51:=Tryz.zeroValue147
 t53:=Tryz.underlying149
 a53:=Tryz.isAgg149
 z53:=Tryz.sizeOf149
 v53:=Tryz.zeroValue149
 t131:=Tryz.underlying113
 a131:=Tryz.isAgg113
 z131:=Tryz.sizeOf113
 v131:=Tryz.zeroValue113
 t182:=Tryz.underlying139
 a182:=Tryz.isAgg139
 z182:=Tryz.sizeOf139
 v182:=Tryz.zeroValue139
 t183:=Tryz.underlying140
 a183:=Tryz.isAgg140
 z183:=Tryz.sizeOf140
 v183:=Tryz.zeroValue140
 t218:=Tryz.underlying152
 a218:=Tryz.isAgg152
 z218:=Tryz.sizeOf152
 v218:=Tryz.zeroValue152
 t222:=Tryz.underlying156
 a222:=Tryz.isAgg156
 z222:=Tryz.sizeOf156
 v222:=Tryz.zeroValue156
 t228:=Tryz.underlying163
 a228:=Tryz.isAgg163
 z228:=Tryz.sizeOf163
 v228:=Tryz.zeroValue163
 t229:=Tryz.underlying37
 a229:=Tryz.isAgg37
 z229:=Tryz.sizeOf37
 v229:=Tryz.zeroValue37 }
theorem psortI_any (blk off cap:Nat) (ss:List Int) (w:World) (hH:Go.Sort.Holds (Value.int .i64) w blk off ss.toArray) (hblk:blk < w.heap.size) (hsz:ss.length < 4611686018427387904) :
 Calls Tryz.prog 56 #[.slice (some ⟨blk,off,none⟩) ss.length cap] w fun e w' =>
  e=.returned (.tuple #[])∧∃ n os,w'=Go.Sort.grow (Go.Sort.putRow (Value.int .i64) (Go.Sort.ahead w n) blk off (ss.mergeSort fun x y=>decide (x≤y)).toArray) os :=
 Any.slices_Sort_int lays189I blk off cap ss w hH hblk hsz
theorem psortI_none (p:Option Addr) (cap:Nat) (w:World):Calls Tryz.prog 56 #[.slice p 0 cap] w fun e w'=>e=.returned (.tuple #[])∧w'=w :=
 Any.slices_Sort_int_none lays189I p cap w
end Go.Proofs.YtdlcimfifkhllaaGreat
namespace Go.Proofs.YtdlcimfifkhllaaGreat
set_option maxRecDepth 100000
open Go.RowKit
set_option linter.unusedVariables false
theorem life_comm (h:List Ev) (t:Int):(∃ e f,commL h t=some e∧findP h t=((t,f,e,true),true))∨(commL h t=none∧(findP h t).1.2.2.2=false):=by
 cases hc:commL h t with
 | some e =>
   obtain ⟨f,hf⟩:=comm_find h t e hc
   exact .inl ⟨e,f,rfl,findP_of hf⟩
 | none =>
   refine .inr ⟨rfl,?_⟩
   unfold findP
   cases hf:findL h t with
   | none=>rfl
   | some x =>
     obtain ⟨t',f,e,b⟩:=x
     cases b with
     | false=>rfl
     | true =>
       have:=(find_comm h t 0 f e t' hf).2
       rw [hc] at this
       cases this
theorem cnt_find (h:List Ev) (i:Nat) (hi:i < h.length) (hk:(ev h i).1=2):countsB h i=((findP h (ev h i).2.1).1.2.2.2&&decide (i < (findP h (ev h i).2.1).1.2.2.1)):=by
 unfold countsB
 rw [decide_eq_true hi,decide_eq_true hk]
 rcases life_comm h (ev h i).2.1 with ⟨e,f,h1,h2⟩ | ⟨h1,h2⟩
 ·rw [h1,h2];simp
 ·rw [h1,h2];simp
theorem find_txn (h:List Ev) (i:Nat) (hi:i < h.length):(findP h (ev h i).2.1).1.1=(ev h i).2.1:=by
 obtain ⟨x,hx⟩:=find_has h i hi
 rw [findP_of hx]
 unfold findL at hx
 cases h1:fstL h (ev h i).2.1 h.length with
 | none=>rw [h1] at hx;cases hx
 | some f' =>
   rw [h1] at hx
   simp only at hx
   cases h2:endL h (ev h i).2.1 h.length with
   | none=>rw [h2] at hx;simp only [Option.some.injEq] at hx;rw [← hx]
   | some e'=>rw [h2] at hx;simp only [Option.some.injEq] at hx;rw [← hx]
def ofwL (h:List Ev) (i:Nat):Bd :=
    if (ev h i).2.2.2=[] then (0,0,0) else
    match writerL h (ev h i).2.2.1 (ev h i).2.2.2 with
    | none=>(0,0,0)
    | some w =>
      if (ev h w).2.1=(ev h i).2.1 then (4,(i:Int),(w:Int)) else
      match commL h (ev h w).2.1 with
      | none=>(1,(i:Int),(w:Int))
      | some e=>if lastN h (ev h w).2.1 (ev h i).2.2.1 (min h.length e)=some w then (0,0,0) else (2,(i:Int),oI (lastN h (ev h w).2.1 (ev h i).2.2.1 (min h.length e)))
theorem at_ofw (h:List Ev) (i:Nat) (hc:countsB h i=true) (hl:lastN h (ev h i).2.1 (ev h i).2.2.1 i=none):atL h i=ofwL h i:=by
 unfold atL ofwL
 rw [if_neg (by rw [hc];simp),hl]
 (try rfl)
theorem last_min (h:List Ev) (t:Int) (key:List UInt8) (e:Nat):lastL h t key (e:Int)=lastN h t key (min h.length e):=by
 unfold lastL
 rw [Int.toNat_natCast]
theorem oI_inj {a:Option Nat} {u:Nat}:oI a=(u:Int)↔a=some u:=by
 cases a with
 | none=>simp only [oI];constructor;intro h;omega;intro h;cases h
 | some k=>simp only [oI,Option.some.injEq];omega
end Go.Proofs.YtdlcimfifkhllaaGreat
