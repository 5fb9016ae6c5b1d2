/-
  Maps by whole numbers whose elements are whatever values: made, read, written, struck from: of no program but for the types. What (ring.web).has and more do. Wh
-/
import Derived.Test.YtiihegldhnlleaaGreatCL0d
import Derived.RegionTactic
import Derived.Shelf.Slices.CompactI
namespace Go.Proofs.YtiihegldhnlleaaGreat
set_option maxRecDepth 100000
open Go.RowKit Go.Maps
set_option linter.unusedVariables false
def rawE (v:Value):Option (DataW Value × List MemPlace):=some (.held v,[])
def VMap (W:World) (b n:Nat) (f:Int→Option Value):Prop :=
 ∃ D:DataW Value,W.ownsMap Tryz.prog 3 rawE b n D∧∀ t:Int,Maps.has D (.int .i64 t)=(f t).isSome∧∀ z,D.atKey (.int .i64 t) z=match f t with
   | none=>z
   | some v=>.held v
def updV (f:Int→Option Value) (t:Int) (v:Value):Int→Option Value:=fun u=>if u=t then some v else f u
def delV (f:Int→Option Value) (t:Int):Int→Option Value:=fun u=>if u=t then none else f u
section
variable {W W':World} {b n m B:Nat} {row:Option Nat} {f:Int→Option Value}
theorem VMap.same (h:VMap W b n f) (hb:W'.heap[b]?=W.heap[b]?):VMap W' b n f:=by
 obtain ⟨D,⟨es,clock,h1,h2⟩,h3⟩:=h;exact ⟨D,⟨es,clock,hb.trans h1,h2⟩,h3⟩
theorem VMap.lt (h:VMap W b n f):b < W.heap.size:=by obtain ⟨D,h1,h2⟩:=h;exact h1.lt
theorem VMap.kept (h:VMap W b n f) (hg:W.grownBy W' row) (hne:some b≠row):VMap W' b n f:=h.same (hg.block b h.lt hne)
theorem VMap.bel (h:VMap W b n f) (hb:Below B W W') (hlt:b < B):VMap W' b n f:=h.same (hb.block b hlt)
theorem VMap.mono (h:VMap W b n f) (hn:n≤m):VMap W b m f:=by obtain ⟨D,h1,h2⟩:=h;exact ⟨D,h1.mono hn,h2⟩
theorem VMap.made (w:World):VMap (w.alloc (.map #[] 0)) w.heap.size 0 (fun _=>none):=⟨.map [],World.ownsMap_made w _ _ _,fun t=>⟨rfl,fun z=>rfl⟩⟩
theorem VMap.put {D:DataW Value} (hd:∀ t:Int,Maps.has D (.int .i64 t)=(f t).isSome∧∀ z,D.atKey (.int .i64 t) z=match f t with
 | none=>z
 | some v=>.held v) (hm:IsMap D) (t:Int) (v:Value) (h:W.ownsMap Tryz.prog 3 rawE b n (D.put (.int .i64 t) (.held v))):VMap W b n (updV f t v):=by
 refine ⟨_,h,fun u=>?_⟩
 unfold updV
 by_cases hu:u=t
 ·subst hu
  rw [if_pos rfl]
  refine ⟨?_,fun z=>?_⟩
  ·rw [has_put_same hm (show WideAt.IsKeyLit (.int .i64 u) from trivial)];rfl
  ·rw [atKey_put_same hm (show WideAt.IsKeyLit (.int .i64 u) from trivial)]
 ·rw [if_neg hu]
  have hne:(Lit.int .i64 u)≠Lit.int .i64 t:=fun h=>hu (by cases h;rfl)
  refine ⟨?_,fun z=>?_⟩
  ·rw [has_put_other hne];exact (hd u).1
  ·rw [atKey_put_other hne];exact (hd u).2 z
theorem VMap.del {D:DataW Value} (hd:∀ t:Int,Maps.has D (.int .i64 t)=(f t).isSome∧∀ z,D.atKey (.int .i64 t) z=match f t with
 | none=>z
 | some v=>.held v) (t:Int) (h:W.ownsMap Tryz.prog 3 rawE b n (D.del (.int .i64 t))):VMap W b n (delV f t):=by
 refine ⟨_,h,fun u=>?_⟩
 unfold delV
 by_cases hu:u=t
 ·subst hu
  rw [if_pos rfl]
  exact ⟨has_del_same,fun z=>atKey_del_same z⟩
 ·rw [if_neg hu]
  have hne:(Lit.int .i64 u)≠Lit.int .i64 t:=fun h=>hu (by cases h;rfl)
  refine ⟨?_,fun z=>?_⟩
  ·rw [has_del_other hne];exact (hd u).1
  ·rw [atKey_del_other hne];exact (hd u).2 z
end
section
variable {W:World} {b n:Nat} {f:Int→Option Value}
theorem keysOf_int {l:Lit} (h:KeysOf Tryz.prog 3 l):∃ t:Int,l=.int .i64 t:=by
 obtain ⟨v,hv⟩:=h
 have hu:Tryz.prog.underlying 3=some (.int .i64):=Tryz.underlying3
 have hm:mapKey Tryz.prog 3 v=some l:=by
  rw [keyOf] at hv
  rw [hu] at hv
  exact hv
 unfold mapKey at hm
 rw [hu] at hm
 cases v<;>simp at hm
 obtain ⟨⟨rfl,_⟩,rfl⟩:=hm
 exact ⟨_,rfl⟩
theorem nodup_perm {α:Type} [DecidableEq α] {a b:List α} (h1:a.Nodup) (h2:b.Nodup) (h:∀ x,x∈a↔x∈b):a.length=b.length:=by
 have:=List.Nodup.length_le_of_subset h1 (fun x hx=>(h x).1 hx)
 have:=List.Nodup.length_le_of_subset h2 (fun x hx=>(h x).2 hx)
 omega
theorem VMap.size {D:DataW Value} (hown:W.ownsMap Tryz.prog 3 rawE b n D) (hd:∀ t:Int,Maps.has D (.int .i64 t)=(f t).isSome∧∀ z,D.atKey (.int .i64 t) z=match f t with
 | none=>z
 | some v=>.held v) (ks:List Int) (hk:ks.Nodup) (hks:∀ t,t∈ks↔(f t).isSome=true):Maps.size D=ks.length:=by
 obtain ⟨es,clock,hb,F,hs,rfl⟩:=hown
 have hkeys:=fit_keys F
 have hap:=fit_apart law8i F
 obtain ⟨E,hE⟩:∃ E,List.map (WideElems.rg Tryz.prog 3 rawE) es.toList=E:=⟨_,rfl⟩
 rw [hE] at hkeys hap hd ⊢
 have hp:=Go.WideShapes.sorted_perm E
 rw [Maps.size_eq,hp.length_eq]
 have hin:∀ p∈E,∃ t:Int,p.1=.int .i64 t:=fun p hp=>keysOf_int (hkeys p hp)
 have hhas:∀ t:Int,(∃ p∈E,p.1=.int .i64 t)↔t∈ks:=fun t=>by
  rw [hks t,← (hd t).1,Maps.has_eq,List.any_eq_true]
  constructor
  ·rintro ⟨p,h1,h2⟩
   refine ⟨p,hp.mem_iff.2 h1,?_⟩
   rw [h2];simp [Lit.sameKey]
  ·rintro ⟨p,h1,h2⟩
   refine ⟨p,hp.mem_iff.1 h1,?_⟩
   obtain ⟨u,hu⟩:=hin p (hp.mem_iff.1 h1)
   rw [hu] at h2 ⊢
   by_cases e:u=t
   ·rw [e]
   ·rw [sameKey_ne (fun h=>e (by cases h;rfl))] at h2
    cases h2
 obtain ⟨g,hg⟩:∃ g:Lit→Int,∀ t:Int,g (.int .i64 t)=t:=⟨fun l=>match l with | .int _ t=>t | _=>0,fun t=>rfl⟩
 have hlen:(E.map fun p=>g p.1).length=ks.length:=by
  refine nodup_perm ?_ hk fun t=>?_
  ·rw [List.nodup_iff_pairwise_ne,List.pairwise_map]
   refine List.Pairwise.imp_of_mem ?_ hap
   intro p q hp hq hne he
   obtain ⟨u,hu⟩:=hin p hp
   obtain ⟨v,hv⟩:=hin q hq
   rw [hu,hv,hg,hg] at he
   exact hne (by rw [hu,hv,he])
  ·rw [List.mem_map,← hhas t]
   constructor
   ·rintro ⟨p,h1,h2⟩
    obtain ⟨u,hu⟩:=hin p h1
    rw [hu,hg] at h2
    exact ⟨p,h1,by rw [hu,h2]⟩
   ·rintro ⟨p,h1,h2⟩
    exact ⟨p,h1,by rw [h2,hg]⟩
 rw [← hlen,List.length_map]
end
theorem own_there {W W':World} {b n:Nat} {D:DataW Value} (hown:W.ownsMap Tryz.prog 3 rawE b n D) (k:Int) (v:Value) (hk:Maps.has D (.int .i64 k)=true) (h:W'.ownsMap Tryz.prog 3 rawE b (n+1) (D.put (.int .i64 k) (.held v))):W'.ownsMap Tryz.prog 3 rawE b n (D.put (.int .i64 k) (.held v)):=by
 have h1:=size_put (k:=.int .i64 k) (hown.tidy law8i) (.held v)
 rw [hk,if_pos rfl] at h1
 have h2:=hown.size_le
 obtain ⟨es,clock,a1,a2,a3,a4⟩:=h
 refine ⟨es,clock,a1,a2,?_,a4⟩
 rw [a4,Maps.size_eq,length_sorted] at h1
 simp at h1
 omega
/-! at the operation -/
section
variable (w:World) {ops:Array Oper} {rest:List Oper} {o:Oper} {a:Act} {Q:Exit→Act→World→Prop}
theorem wpl_look (hg:o.guard=none) (m x:Operand) (t:TypeId) (hop:o.op=Op.lookup t m x false) (e:TypeId) (ht:Tryz.prog.underlying t=some (.map 3 e)) {z:Value} (hz:(zeroValue e).run Tryz.prog w=.ok z w) (b n:Nat) (f:Int→Option Value)
 (hm:a.eval m=.map (some b)) (hM:VMap w b n f) (i:Int) (hi:I64 i) (hx:a.eval x=.int .i64 i) (v:Value) (hv:(f i).getD z=v) (hK:wpList Tryz.prog ops Q rest (a.put o.dst v) w):wpList Tryz.prog ops Q (o::rest) a w:=by
 refine wpList_plain hg fun K' hK'=>?_
 obtain ⟨D,hown,hd⟩:=hM
 obtain ⟨u,ps,hrun,hu⟩:=hown.lookup law8i ht hz (zd:=.held z) (zp:=[]) rfl (key8i hi)
 unfold Oper.wp
 simp [execOp,hop,hm,hx,hrun,Result.andThen]
 have e1:u=v:=by
  rw [(hd i).2] at hu
  rw [← hv]
  cases hf:f i with
  | none=>rw [hf] at hu;simp [rawE] at hu;simp [hu.1]
  | some y=>rw [hf] at hu;simp [rawE] at hu;simp [hu.1]
 rw [e1]
 exact hK' _ _ hK
theorem wpl_look_ok (hg:o.guard=none) (m x:Operand) (t:TypeId) (hop:o.op=Op.lookup t m x true) (e:TypeId) (ht:Tryz.prog.underlying t=some (.map 3 e)) {z:Value} (hz:(zeroValue e).run Tryz.prog w=.ok z w) (b n:Nat) (f:Int→Option Value)
 (hm:a.eval m=.map (some b)) (hM:VMap w b n f) (i:Int) (hi:I64 i) (hx:a.eval x=.int .i64 i) (v:Value) (hv:(f i).getD z=v) (is:Bool) (his:(f i).isSome=is) (hK:wpList Tryz.prog ops Q rest (a.put o.dst (.tuple #[v,.bool is])) w):wpList Tryz.prog ops Q (o::rest) a w:=by
 refine wpList_plain hg fun K' hK'=>?_
 obtain ⟨D,hown,hd⟩:=hM
 obtain ⟨u,ps,hrun,hu⟩:=hown.look_ok law8i ht hz (zd:=.held z) (zp:=[]) rfl (key8i hi)
 unfold Oper.wp
 simp [execOp,hop,hm,hx,hrun,Result.andThen]
 have e1:u=v:=by
  rw [(hd i).2] at hu
  rw [← hv]
  cases hf:f i with
  | none=>rw [hf] at hu;simp [rawE] at hu;simp [hu.1]
  | some y=>rw [hf] at hu;simp [rawE] at hu;simp [hu.1]
 rw [e1,(hd i).1,his]
 exact hK' _ _ hK
theorem wpl_store (hg:o.guard=none) (m x y:Operand) (t:TypeId) (hop:o.op=Op.mapUpdate t m x y) (e:TypeId) (ht:Tryz.prog.underlying t=some (.map 3 e)) (b n:Nat) (f:Int→Option Value)
 (hm:a.eval m=.map (some b)) (hM:VMap w b n f) (hn:n < 9223372036854775807) (i:Int) (hi:I64 i) (hx:a.eval x=.int .i64 i) (v:Value) (hv:a.eval y=v)
 (hK:∀ w',VMap w' b (n+1) (updV f i v)→w.grownBy w' (some b)→wpList Tryz.prog ops Q rest (a.put o.dst undef) w'):wpList Tryz.prog ops Q (o::rest) a w:=by
 refine wpList_plain hg fun K' hK'=>?_
 obtain ⟨D,hown,hd⟩:=hM
 obtain ⟨w',hrun,r1,r2⟩:=hown.update law8i ht (by unfold maxLen;omega) (key8i hi) (val:=v) (d:=.held v) (ps:=[]) rfl
 unfold Oper.wp
 simp [execOp,hop,hm,hx,hv,hrun,Result.andThen]
 exact hK' _ _ (hK w' (VMap.put hd hown.isMap i v r1) r2)
theorem wpl_restore (hg:o.guard=none) (m x y:Operand) (t:TypeId) (hop:o.op=Op.mapUpdate t m x y) (e:TypeId) (ht:Tryz.prog.underlying t=some (.map 3 e)) (b n:Nat) (f:Int→Option Value)
 (hm:a.eval m=.map (some b)) (hM:VMap w b n f) (hn:n < 9223372036854775807) (i:Int) (hi:I64 i) (hx:a.eval x=.int .i64 i) (hf:(f i).isSome=true) (v:Value) (hv:a.eval y=v)
 (hK:∀ w',VMap w' b n (updV f i v)→w.grownBy w' (some b)→wpList Tryz.prog ops Q rest (a.put o.dst undef) w'):wpList Tryz.prog ops Q (o::rest) a w:=by
 refine wpList_plain hg fun K' hK'=>?_
 obtain ⟨D,hown,hd⟩:=hM
 obtain ⟨w',hrun,r1,r2⟩:=hown.update law8i ht (by unfold maxLen;omega) (key8i hi) (val:=v) (d:=.held v) (ps:=[]) rfl
 unfold Oper.wp
 simp [execOp,hop,hm,hx,hv,hrun,Result.andThen]
 exact hK' _ _ (hK w' (VMap.put hd hown.isMap i v (own_there hown i v ((hd i).1.trans hf) r1)) r2)
theorem wpl_delete (hg:o.guard=none) (m x:Operand) (t:TypeId) (hop:o.op=Op.call { callee:=Callee.builtin Builtin.delete,args:=#[m,x],argTypes:=#[t,3] }) (e:TypeId) (ht:Tryz.prog.underlying t=some (.map 3 e)) (b n:Nat) (f:Int→Option Value)
 (hm:a.eval m=.map (some b)) (hM:VMap w b n f) (i:Int) (hi:I64 i) (hx:a.eval x=.int .i64 i)
 (hK:∀ w',VMap w' b n (delV f i)→w.grownBy w' (some b)→wpList Tryz.prog ops Q rest (a.put o.dst (.tuple #[])) w'):wpList Tryz.prog ops Q (o::rest) a w:=by
 obtain ⟨D,hown,hd⟩:=hM
 exact wpList_delete_own w hg m x t 3 hop e law8i ht rawE b n D hm hown _ _ hx (key8i hi) fun w' h1 h2=>hK w' (VMap.del hd i h1) h2.grown
theorem wpl_len (hg:o.guard=none) (m:Operand) (t:TypeId) (hop:o.op=Op.call { callee:=Callee.builtin Builtin.len,args:=#[m],argTypes:=#[t] }) (e:TypeId) (ht:Tryz.prog.underlying t=some (.map 3 e)) (b n:Nat) (f:Int→Option Value)
 (hm:a.eval m=.map (some b)) (hM:VMap w b n f) (ks:List Int) (hk:ks.Nodup) (hks:∀ t,t∈ks↔(f t).isSome=true)
 (hK:wpList Tryz.prog ops Q rest (a.put o.dst (.int .i64 (ks.length:Nat))) w):wpList Tryz.prog ops Q (o::rest) a w:=by
 obtain ⟨D,hown,hd⟩:=hM
 exact wpList_len_own w hg m t hop 3 e ht rawE b n D hm hown (by rw [VMap.size hown hd ks hk hks];exact hK)
end
end Go.Proofs.YtiihegldhnlleaaGreat
namespace Go.Proofs.YtiihegldhnlleaaGreat
set_option maxRecDepth 100000
open Go.RowKit Go.Maps
set_option linter.unusedVariables false
attribute [local go_sem] ba_size
abbrev tW:TypeId:=109
abbrev tC:TypeId:=115
abbrev tML:TypeId:=106
abbrev tMI:TypeId:=107
def cntV (p:Int × Int):Value:=.agg #[.int .i64 p.1,.int .i64 p.2]
def CMap (W:World) (b n:Nat) (c:Cnt):Prop:=VMap W b n (fun x=>(c x).map cntV)
theorem CMap.kept {W W':World} {b n:Nat} {c:Cnt} {row:Option Nat} (h:CMap W b n c) (hg:W.grownBy W' row) (hne:some b≠row):CMap W' b n c:=VMap.kept h hg hne
theorem CMap.bel {W W':World} {b n B:Nat} {c:Cnt} (h:CMap W b n c) (hb:Below B W W') (hlt:b < B):CMap W' b n c:=VMap.bel h hb hlt
theorem CMap.lt {W:World} {b n:Nat} {c:Cnt} (h:CMap W b n c):b < W.heap.size:=VMap.lt h
theorem cmap_upd (c:Cnt) (x:Int) (p:Int × Int):(fun u=>(updC c x p u).map cntV)=updV (fun u=>(c u).map cntV) x (cntV p):=by
 funext u
 unfold updC updV
 by_cases h:u=x
 ·rw [if_pos h,if_pos h];rfl
 ·rw [if_neg h,if_neg h]
theorem cmap_del (c:Cnt) (x:Int):(fun u=>(delC c x u).map cntV)=delV (fun u=>(c u).map cntV) x:=by
 funext u
 unfold delC delV
 by_cases h:u=x
 ·rw [if_pos h,if_pos h];rfl
 ·rw [if_neg h,if_neg h]
theorem zeroC (w:World):(zeroValue tC).run Tryz.prog w=.ok (.agg #[.int .i64 0,.int .i64 0]) w:=by kernel_rfl
abbrev webC (vl vn:Value) (m1 m2 m3:Nat):Array Value:=#[vl,vn,.map (some m1),.map (some m2),.map (some m3)]
abbrev webV (vl vn:Value) (m1 m2 m3:Nat):Value:=.agg (webC vl vn m1 m2 m3)
set_option maxHeartbeats 1000000 in
theorem phas11_any (vl vn:Value) (m1 m2 m3 n:Nat) (c:Cnt) (x:Int) (W:World) (hx:I64 x) (hM:CMap W m1 n c) (bo:Bool) (hb:(c x).isSome=bo) :
 Calls Tryz.prog 85 #[webV vl vn m1 m2 m3,.int .i64 x] W fun e W'=>e=.returned (.bool bo)∧Below W.heap.size W W':=by
 obtain ⟨p,q,hv⟩:∃ p q,((c x).map cntV).getD (.agg #[.int .i64 0,.int .i64 0])=.agg #[.int .i64 p,.int .i64 q]:=by
  cases c x with
  | none=>exact ⟨0,0,rfl⟩
  | some r=>exact ⟨r.1,r.2,rfl⟩
 have his:((c x).map cntV).isSome=bo:=by rw [Option.isSome_map];exact hb
 have hM1:=VMap.kept hM (World.grownBy_alloc W (.cells (webC vl vn m1 m2 m3) tW) none) (by simp)
 clear hb
 go_enter Tryz.func85,Tryz.ntmps85
 go_wp2_with (at_lookup;refine wpl_look_ok _ rfl _ _ tML rfl tC Tryz.underlying106 (zeroC _) m1 n _ rfl hM1 x hx rfl _ hv bo his ?_)
 go_ret
 exact ⟨rfl,((Below.refl W.heap.size W).alloc (Nat.le_refl _) _).alloc (by simp) _⟩
set_option maxHeartbeats 1000000 in
theorem pmore11_any (vl vn:Value) (m1 m2 m3 n:Nat) (c:Cnt) (x:Int) (W:World) (hx:I64 x) (hM:CMap W m1 n c) (p d r:Int × Int) (hc:c x=some p) (hn:n < 9223372036854775807)
 (hr1:p.1+d.1=r.1) (hr2:p.2+d.2=r.2) (hI1:I64 r.1) (hI2:I64 r.2) :
 Calls Tryz.prog 108 #[webV vl vn m1 m2 m3,.int .i64 x,.agg #[.int .i64 d.1,.int .i64 d.2]] W fun e W'=>e=.returned (.tuple #[])∧CMap W' m1 n (updC c x r)∧W.grownBy W' (some m1):=by
 have hv:((c x).map cntV).getD (.agg #[.int .i64 0,.int .i64 0])=.agg #[.int .i64 p.1,.int .i64 p.2]:=by rw [hc];rfl
 have hlt:=hM.lt
 have hf:((c x).map cntV).isSome=true:=by rw [hc];rfl
 obtain ⟨p1,p2⟩:=p
 obtain ⟨d1,d2⟩:=d
 obtain ⟨r1,r2⟩:=r
 simp only at hr1 hr2 hI1 hI2 hv ⊢
 have z1:IntKind.i64.wrap (p1+d1)=r1:=by rw [hr1,IntKind.wrap_i64];omega
 have z2:IntKind.i64.wrap (p2+d2)=r2:=by rw [hr2,IntKind.wrap_i64];omega
 have hU:Hid ((fun u=>(updC c x (r1,r2) u).map cntV)=updV (fun u=>(c u).map cntV) x (.agg #[.int .i64 r1,.int .i64 r2])):=cmap_upd c x (r1,r2)
 have g1:=(World.grownBy_alloc W (.cells (webC vl vn m1 m2 m3) tW) none).trans (World.grownBy_alloc _ (.cells #[.int .i64 d1,.int .i64 d2] tC) none)
 have g2:=g1.trans (World.grownBy_alloc _ (.cells #[.int .i64 p1,.int .i64 p2] tC) none)
 have hM1:=VMap.kept hM g1 (by simp)
 have hM2:=VMap.kept hM g2 (by simp)
 have HG:Hid (∀ V,_→W.grownBy V (some m1)):=fun V (h:(((W.alloc (.cells (webC vl vn m1 m2 m3) tW)).alloc (.cells #[.int .i64 d1,.int .i64 d2] tC)).alloc (.cells #[.int .i64 p1,.int .i64 p2] tC)).grownBy V (some m1))=>(g2.but _).trans h
 clear hc g1 g2 hr1 hr2
 go_enter Tryz.func108,Tryz.ntmps108
 go_wp2_with (first
  | (at_lookup;refine wpl_look _ rfl _ _ tML rfl tC Tryz.underlying106 (zeroC _) m1 n _ rfl hM1 x hx rfl _ hv ?_)
  | (at_mapUpdate;refine wpl_restore _ rfl _ _ _ tML rfl tC Tryz.underlying106 m1 n _ rfl hM2 hn x hx rfl hf (.agg #[.int .i64 r1,.int .i64 r2]) rfl ?_;intro w1 hM3 hg3))
 go_wp2_with fail
 go_end0
 refine ⟨rfl,?_,HG.out _ hg3⟩
 unfold CMap
 rw [hU.out]
 exact hM3
end Go.Proofs.YtiihegldhnlleaaGreat
namespace Go.Proofs.YtiihegldhnlleaaGreat
set_option maxRecDepth 100000
open Go.RowKit
set_option linter.unusedVariables false
def vblk (W:World) (bn:Nat):Option Nat:=match W.cell? ⟨bn,0,none⟩ with
 | some v=>v.ownBlock
 | none=>none
theorem vblk_of {W:World} {bn:Nat} {t:TypeId} {v:Value} (h:Boxed W bn t v):vblk W bn=v.ownBlock:=by unfold vblk;rw [h.cell]
theorem vblk_same {W W':World} {bn:Nat} (h:W'.heap[bn]?=W.heap[bn]?):vblk W' bn=vblk W bn:=by unfold vblk;rw [World.cell?_of_block (a:=⟨bn,0,none⟩) h]
structure Fr (B bn:Nat) (W W':World):Prop where
 bel:Below B W W'
 blk:∀ b,b < W.heap.size→b≠bn→some b≠vblk W bn→W'.heap[b]?=W.heap[b]?
 vb:vblk W' bn=vblk W bn∨∃ g,vblk W' bn=some g∧W.heap.size≤g
section
variable {B bn:Nat} {A W W':World}
theorem Fr.refl (B bn:Nat) (W:World):Fr B bn W W:=⟨Below.refl _ _,fun _ _ _ _=>rfl,.inl rfl⟩
theorem Fr.trans (h:Fr B bn A W) (k:Fr B bn W W'):Fr B bn A W':=by
 refine ⟨h.bel.trans k.bel,fun b hb hne h3=>?_,?_⟩
 ·refine (k.blk b (Nat.lt_of_lt_of_le hb h.bel.size) hne (fun e=>?_)).trans (h.blk b hb hne h3)
  rcases h.vb with e1 | ⟨g,e1,e2⟩
  ·exact h3 (by rw [← e1];exact e)
  ·rw [e1] at e
   have:=Option.some.inj e
   omega
 ·rcases k.vb with e1 | ⟨g,e1,e2⟩
  ·rcases h.vb with e3 | ⟨g,e3,e4⟩
   ·exact .inl (e1.trans e3)
   ·exact .inr ⟨g,e1.trans e3,e4⟩
  ·exact .inr ⟨g,e1,Nat.le_trans h.bel.size e2⟩
theorem Fr.below (h:Below W.heap.size W W') (hB:B≤W.heap.size) (bn:Nat) (hbn:bn < W.heap.size):Fr B bn W W':=⟨h.mono hB,fun b hb _ _=>h.block b hb,.inl (vblk_same (h.block bn hbn))⟩
theorem Fr.andBelow (h:Fr B bn A W) (k:Below W.heap.size W W') (hB:B≤W.heap.size) (hbn:bn < W.heap.size):Fr B bn A W':=h.trans (Fr.below k hB bn hbn)
theorem Fr.row (h:Fr B bn A W) {n:Nat} {v:Value} {xs:List Value} (hrow:W.ownsRow B 3 1 v n xs) {t:TypeId} (hbx:Boxed W bn t v) (ht:t≠3) (hg:W.grownBy W' v.ownBlock) (hB:B≤W.heap.size):Fr B bn A W' :=
 h.trans ⟨(Below.refl B W).grown hg hB (fun j hj=>(hrow.lt j hj).1),fun b hb hne h3=>hg.block b hb (fun e=>h3 (by rw [vblk_of hbx];exact e)),.inl (vblk_same (hg.block bn hbx.lt (block_not_row hbx ht hrow)))⟩
theorem Fr.alloc (h:Fr B bn A W) (hB:B≤W.heap.size) (hbn:bn < W.heap.size) (o:Obj):Fr B bn A (W.alloc o):=h.andBelow ((Below.refl _ W).alloc (Nat.le_refl _) o) hB hbn
theorem Fr.drew (h:Fr B bn A W):Fr B bn A W.drew:=⟨h.bel.drew,h.blk,h.vb⟩
theorem Fr.set (h:Fr B bn A W) (hB:B≤bn) {t:TypeId} {v:Value} (hbx:Boxed W bn t v) (u:Value) (hu:u.ownBlock=vblk A bn∨∃ g,u.ownBlock=some g∧A.heap.size≤g):Fr B bn A (W.setCell ⟨bn,0,none⟩ u):=by
 have e:vblk (W.setCell ⟨bn,0,none⟩ u) bn=u.ownBlock:=vblk_of (hbx.set u)
 refine ⟨h.bel.setCell (p:=⟨bn,0,none⟩) hB u,fun b hb hne h3=>(Below.heap_setCell _ _ _ b hne).trans (h.blk b hb hne h3),by rw [e];exact hu⟩
theorem Fr.mono {B':Nat} (h:Fr B bn A W) (hB:B'≤B):Fr B' bn A W:=⟨h.bel.mono hB,h.blk,h.vb⟩
theorem Fr.box {t:TypeId} {cs:Array Value} {b:Nat} (h:Fr B bn W W') (hb:SBox W b t cs) (hne:b≠bn) (hv:some b≠vblk W bn):SBox W' b t cs:=(h.blk b hb.lt hne hv).trans hb
theorem Fr.other (h:Fr B bn W W') {B' e k n:Nat} {v:Value} {xs:List Value} (ho:W.ownsRow B' e k v n xs) (hne:v.ownBlock≠some bn) (hv:∀ g,v.ownBlock=some g→vblk W bn≠some g):W'.ownsRow B' e k v n xs∧∀ g,v.ownBlock=some g→vblk W' bn≠some g:=by
 constructor
 ·rcases ho.2 with ⟨rfl,h0⟩ | ⟨g,cap,cur,rfl,h1,h2,h3⟩
  ·exact ⟨ho.1,.inl ⟨rfl,h0⟩⟩
  ·refine ⟨ho.1,.inr ⟨g,cap,cur,rfl,h1,(h.blk g (Array.getElem?_eq_some_iff.1 h2).1 (fun e=>hne (by rw [e];simp [Value.ownBlock])) (fun e=>hv g (by simp [Value.ownBlock]) e.symm)).trans h2,h3⟩⟩
 ·intro g hg e
  rcases h.vb with e1 | ⟨g',e1,e2⟩
  ·exact hv g hg (by rw [← e1];exact e)
  ·have:=(ho.lt g hg).2
   rw [e1] at e
   have:=Option.some.inj e
   omega
end
end Go.Proofs.YtiihegldhnlleaaGreat
namespace Go.Proofs.YtiihegldhnlleaaGreat
set_option maxRecDepth 100000
set_option linter.unusedVariables false
abbrev hg (a:List Int) (k:Nat):Int:=a.getD k 0
def swL (a:List Int) (i j:Nat):List Int:=(a.set i (hg a j)).set j (hg a i)
theorem swL_len (a:List Int) (i j:Nat):(swL a i j).length=a.length:=by simp [swL]
theorem swL_at (a:List Int) (i j k:Nat) (hi:i < a.length) (hj:j < a.length):hg (swL a i j) k=if k=j then hg a i else if k=i then hg a j else hg a k:=by
 unfold swL hg
 rw [List.getD_eq_getElem?_getD,List.getElem?_set]
 by_cases h1:k=j
 ·subst h1
  simp [hj]
 ·rw [if_neg (fun e=>h1 e.symm),if_neg h1,List.getElem?_set]
  by_cases h2:k=i
  ·subst h2
   simp [hi]
  ·rw [if_neg (fun e=>h2 e.symm),if_neg h2,List.getD_eq_getElem?_getD]
theorem swL_perm (a:List Int) (i j:Nat) (hi:i < a.length) (hj:j < a.length):(swL a i j).Perm a:=by
 rw [List.perm_iff_count]
 intro x
 unfold swL
 have hj':j < (a.set i (hg a j)).length:=by simpa using hj
 rw [List.count_set hj',List.count_set hi]
 have e1:hg a j=a[j]:=by simp [hg,hj]
 have e2:hg a i=a[i]:=by simp [hg,hi]
 have hc1:a[i]=x→0 < a.count x:=fun h=>List.count_pos_iff.2 (h ▸ List.getElem_mem hi)
 have hc2:a[j]=x→0 < a.count x:=fun h=>List.count_pos_iff.2 (h ▸ List.getElem_mem hj)
 have e3:(a.set i (hg a j))[j]=a[j]:=by
  rw [List.getElem_set]
  split
  ·rw [e1]
  ·rfl
 rw [e3,e1,e2]
 simp only [beq_iff_eq]
 by_cases h1:a[i]=x
 ·by_cases h2:a[j]=x
  ·have:=hc1 h1;simp [h1,h2];omega
  ·have:=hc1 h1;simp [h1,h2];omega
 ·by_cases h2:a[j]=x
  ·have:=hc2 h2;simp [h1,h2]
  ·simp [h1,h2]
def HeapN (a:List Int) (n:Nat):Prop:=∀ k,0 < k→k < n→hg a ((k - 1) / 2)≤hg a k
theorem HeapN.root {a:List Int} {n:Nat} (h:HeapN a n):∀ k,k < n→hg a 0≤hg a k:=by
 intro k
 induction k using Nat.strongRecOn with
 | _ k ih =>
   intro hk
   rcases Nat.eq_zero_or_pos k with h0 | h0
   ·subst h0;exact Int.le_refl _
   ·have:=ih ((k - 1) / 2) (by omega) (by omega)
    have:=h k h0 hk
    omega
def UpI (a:List Int) (j n:Nat):Prop:=(∀ k,0 < k→k < n→k≠j→hg a ((k - 1) / 2)≤hg a k)∧(∀ k,0 < k→k < n→(k - 1) / 2=j→0 < j→hg a ((j - 1) / 2)≤hg a k)
theorem upI_start (a:List Int) (x:Int) (h:HeapN a a.length):UpI (a++[x]) a.length (a.length+1):=by
 have e:∀ k,k < a.length→hg (a++[x]) k=hg a k:=fun k hk=>by unfold hg;rw [List.getD_eq_getElem?_getD,List.getElem?_append_left hk,List.getD_eq_getElem?_getD]
 refine ⟨fun k h0 hk hne=>?_,fun k h0 hk hp h1=>by omega⟩
 rw [e k (by omega),e ((k - 1) / 2) (by omega)]
 exact h k h0 (by omega)
theorem upI_zero {a:List Int} {n:Nat} (h:UpI a 0 n):HeapN a n:=fun k h0 hk=>h.1 k h0 hk (by omega)
theorem upI_stop {a:List Int} {j n:Nat} (h:UpI a j n) (hle:hg a ((j - 1) / 2)≤hg a j):HeapN a n:=fun k h0 hk=>by
 by_cases e:k=j
 ·rw [e];exact hle
 ·exact h.1 k h0 hk e
theorem upI_step {a:List Int} {j n:Nat} (h:UpI a j n) (hn:n≤a.length) (h0:0 < j) (hj:j < n) (hlt:hg a j < hg a ((j - 1) / 2)):UpI (swL a ((j - 1) / 2) j) ((j - 1) / 2) n:=by
 have hi:(j - 1) / 2 < a.length:=by omega
 have hj':j < a.length:=by omega
 refine ⟨fun k k0 hk hne=>?_,fun k k0 hk hp hi0=>?_⟩
 ·rw [swL_at a _ _ _ hi hj',swL_at a _ _ _ hi hj']
  by_cases e1:k=j
  ·subst e1
   rw [if_neg (by omega),if_pos rfl,if_pos rfl]
   omega
  ·rw [if_neg e1,if_neg hne]
   by_cases e2:(k - 1) / 2=j
   ·rw [if_pos e2]
    exact h.2 k k0 hk e2 h0
   ·rw [if_neg e2]
    by_cases e3:(k - 1) / 2=(j - 1) / 2
    ·rw [if_pos e3]
     have:=h.1 k k0 hk e1
     rw [e3] at this
     omega
    ·rw [if_neg e3]
     exact h.1 k k0 hk e1
 ·have hii:hg a (((j - 1) / 2 - 1) / 2)≤hg a ((j - 1) / 2):=h.1 ((j - 1) / 2) hi0 (by omega) (by omega)
  rw [swL_at a _ _ _ hi hj',swL_at a _ _ _ hi hj',if_neg (by omega),if_neg (by omega)]
  by_cases e1:k=j
  ·rw [if_pos e1];exact hii
  ·rw [if_neg e1,if_neg (by omega)]
   have:=h.1 k k0 hk e1
   rw [hp] at this
   omega
def DownI (a:List Int) (i n:Nat):Prop:=(∀ k,0 < k→k < n→(k - 1) / 2≠i→hg a ((k - 1) / 2)≤hg a k)∧(∀ k,0 < k→k < n→(k - 1) / 2=i→0 < i→hg a ((i - 1) / 2)≤hg a k)
theorem downI_start (a:List Int) (n:Nat) (hl:a.length=n+1) (h:HeapN a (n+1)):DownI (swL a 0 n) 0 n:=by
 refine ⟨fun k k0 hk hne=>?_,fun k _ _ _ h0=>by omega⟩
 rw [swL_at a _ _ _ (by omega) (by omega),swL_at a _ _ _ (by omega) (by omega),if_neg (by omega),if_neg (by omega),if_neg (by omega),if_neg (by omega)]
 exact h k k0 (by omega)
theorem downI_leaf {a:List Int} {i n:Nat} (h:DownI a i n) (hn:n≤2*i+1):HeapN a n:=fun k k0 hk=>h.1 k k0 hk (by omega)
def LeastC (a:List Int) (i j n:Nat):Prop:=j < n∧(j=2*i+1∨j=2*i+2)∧∀ k,0 < k→k < n→(k - 1) / 2=i→hg a j≤hg a k
theorem leastC_one {a:List Int} {i n:Nat} (h1:2*i+1 < n) (h2:n≤2*i+2∨hg a (2*i+1)≤hg a (2*i+2)):LeastC a i (2*i+1) n:=by
 refine ⟨h1,.inl rfl,fun k k0 hk hp=>?_⟩
 rcases (show k=2*i+1∨k=2*i+2 by omega) with e | e
 ·rw [e];exact Int.le_refl _
 ·rw [e];rcases h2 with h2 | h2
  ·omega
  ·exact h2
theorem leastC_two {a:List Int} {i n:Nat} (h1:2*i+2 < n) (h2:hg a (2*i+2) < hg a (2*i+1)):LeastC a i (2*i+2) n:=by
 refine ⟨h1,.inr rfl,fun k k0 hk hp=>?_⟩
 rcases (show k=2*i+1∨k=2*i+2 by omega) with e | e
 ·rw [e];omega
 ·rw [e];exact Int.le_refl _
theorem downI_stop {a:List Int} {i j n:Nat} (h:DownI a i n) (hc:LeastC a i j n) (hle:hg a i≤hg a j):HeapN a n:=fun k k0 hk=>by
 by_cases e:(k - 1) / 2=i
 ·have:=hc.2.2 k k0 hk e
  rw [e];omega
 ·exact h.1 k k0 hk e
theorem downI_step {a:List Int} {i j n:Nat} (h:DownI a i n) (hn:n≤a.length) (hc:LeastC a i j n) (hlt:hg a j < hg a i):DownI (swL a i j) j n:=by
 obtain ⟨c1,c2,c3⟩:=hc
 have hi:i < a.length:=by omega
 have hj:j < a.length:=by omega
 have hpj:(j - 1) / 2=i:=by omega
 refine ⟨fun k k0 hk hne=>?_,fun k k0 hk hp _=>?_⟩
 ·rw [swL_at a _ _ _ hi hj,swL_at a _ _ _ hi hj]
  by_cases e1:(k - 1) / 2=i
  ·rw [if_neg hne,if_pos e1]
   by_cases e2:k=j
   ·rw [if_pos e2];omega
   ·rw [if_neg e2,if_neg (by omega)]
    exact c3 k k0 hk e1
  ·rw [if_neg hne,if_neg e1]
   by_cases e2:k=j
   ·omega
   ·rw [if_neg e2]
    by_cases e3:k=i
    ·rw [if_pos e3,e3]
     exact h.2 j (by omega) c1 hpj (by omega)
    ·rw [if_neg e3]
     exact h.1 k k0 hk e1
 ·rw [swL_at a _ _ _ hi hj,swL_at a _ _ _ hi hj,if_neg (by omega),if_pos hpj,if_neg (by omega),if_neg (by omega)]
  have:=h.1 k k0 hk (by omega)
  rw [hp] at this
  exact this
def Heaped (a:List Int):Prop:=HeapN a a.length
theorem heaped_nil:Heaped []:=fun k _ h=>by simp at h
def Pushed (a:List Int) (x:Int) (b:List Int):Prop:=Heaped b∧b.Perm (x::a)
def Popped (a:List Int) (x:Int) (b:List Int):Prop:=Heaped b∧a.Perm (x::b)∧∀ y∈a,x≤y
theorem pushed_of (a b:List Int) (x:Int) (hp:b.Perm (a++[x])) (hh:HeapN b (a.length+1)):Pushed a x b:=by
 have hl:b.length=a.length+1:=by rw [hp.length_eq];simp
 refine ⟨by unfold Heaped;rw [hl];exact hh,hp.trans ?_⟩
 exact List.perm_append_singleton x a
theorem popped_of (a c:List Int) (n:Nat) (hl:a.length=n+1) (ha:Heaped a) (hp:c.Perm a) (hh:HeapN c n) (hlast:hg c n=hg a 0):Popped a (hg a 0) (c.take n):=by
 have hcl:c.length=n+1:=by rw [hp.length_eq,hl]
 have ec:c=c.take n++[hg a 0]:=by
  have h1:c.take (n+1)=c.take n++[c[n]]:=List.take_succ_eq_append_getElem (by omega)
  rw [List.take_of_length_le (by omega)] at h1
  have h2:c[n]=hg a 0:=by rw [← hlast];simp [hg,hcl]
  rw [h2] at h1
  exact h1
 refine ⟨?_,?_,?_⟩
 ·unfold Heaped
  rw [List.length_take,Nat.min_eq_left (by omega)]
  intro k k0 hk
  have e:∀ m,m < n→hg (c.take n) m=hg c m:=fun m hm=>by simp [hg,hm]
  rw [e k hk,e _ (by omega)]
  exact hh k k0 hk
 ·refine hp.symm.trans ?_
  have h3:=List.perm_append_singleton (hg a 0) (c.take n)
  rw [← ec] at h3
  exact h3
 ·intro y hy
  obtain ⟨k,hk,rfl⟩:=List.getElem_of_mem hy
  have:=ha.root k hk
  simpa [hg,hk] using this
open Go.RowKit
attribute [local go_sem] ba_size
abbrev HRow (W:World) (B g c:Nat) (a:List Int):Prop:=W.ownsRow B 3 1 (.slice (some ⟨g,0,none⟩) a.length c) a.length (iV a)
theorem HRow.cell {W:World} {B g c:Nat} {a:List Int} (h:HRow W B g c a) (j:Nat) (hj:j < a.length):W.cell? ⟨g,j,none⟩=some (.int .i64 (hg a j)):=by
 rw [h.cellAt j (by omega),iV_at a j hj]
 simp [hj]
theorem HRow.set {W:World} {B g c:Nat} {a:List Int} (h:HRow W B g c a) (j:Nat) (x:Int):HRow (W.setCell ⟨g,j,none⟩ (.int .i64 x)) B g c (a.set j x):=by
 have:=(h.stored j (.int .i64 x)).1
 unfold HRow
 rw [List.length_set]
 have e:(iV a).set j (.int .i64 x)=iV (a.set j x):=by unfold iV;rw [List.map_set]
 rw [e] at this
 exact this
theorem plen11_any (a:Option Addr) (n c:Nat) (W:World):Calls Tryz.prog 78 #[.slice a n c] W fun e W'=>e=.returned (.int .i64 (n:Int))∧W'=W:=by
 go_enter Tryz.func78,Tryz.ntmps78
 go_wp2_with fail
 go_ret
 exact ⟨rfl,rfl⟩
theorem pless11_any (W:World) (B g c:Nat) (a:List Int) (h:HRow W B g c a) (i j:Nat) (hi:i < a.length) (hj:j < a.length) (hn:a.length≤140737488351232) :
 Calls Tryz.prog 173 #[.slice (some ⟨g,0,none⟩) a.length c,.int .i64 (i:Int),.int .i64 (j:Int)] W fun e W'=>e=.returned (.bool (decide (hg a i < hg a j)))∧Below W.heap.size W W':=by
 have c1:=h.cell i hi
 have c2:=h.cell j hj
 obtain ⟨n,hnn⟩:∃ n,a.length=n:=⟨_,rfl⟩
 rw [hnn] at hi hj hn ⊢
 have j1:(i:Int) < (n:Int):=by omega
 have j2:(j:Int) < (n:Int):=by omega
 obtain ⟨x,hx⟩:∃ x,hg a i=x:=⟨_,rfl⟩
 obtain ⟨y,hy⟩:∃ y,hg a j=y:=⟨_,rfl⟩
 rw [hx] at c1 ⊢
 rw [hy] at c2 ⊢
 clear hx hy h hnn
 go_enter Tryz.func173,Tryz.ntmps173
 go_wp2_with fail
 go_quiet (fail)
 go_wp2_with fail
 go_ret
 exact ⟨rfl,below_drewN (Below.refl _ _) nq⟩
set_option maxHeartbeats 2000000 in
theorem pswap11_any (W:World) (B g c:Nat) (a:List Int) (h:HRow W B g c a) (i j:Nat) (hi:i < a.length) (hj:j < a.length) (hn:a.length≤140737488351232) :
 Calls Tryz.prog 175 #[.slice (some ⟨g,0,none⟩) a.length c,.int .i64 (i:Int),.int .i64 (j:Int)] W fun e W'=>e=.returned (.tuple #[])∧HRow W' B g c (swL a i j)∧W.grownBy W' (some g):=by
 have c1:=h.cell i hi
 have c2:=h.cell j hj
 have f1:=h.frozenAt i
 have f2:=h.frozenAt j
 have HE:Hid (HRow ((W.setCell ⟨g,i,none⟩ (.int .i64 (hg a j))).setCell ⟨g,j,none⟩ (.int .i64 (hg a i))) B g c (swL a i j)):=(h.set i _).set j _
 have HG:Hid (W.grownBy ((W.setCell ⟨g,i,none⟩ (.int .i64 (hg a j))).setCell ⟨g,j,none⟩ (.int .i64 (hg a i))) (some g)):=by
  have g1:=Lib.grownBy_setCell W g i (.int .i64 (hg a j))
  have g2:=Lib.grownBy_setCell (W.setCell ⟨g,i,none⟩ (.int .i64 (hg a j))) g j (.int .i64 (hg a i))
  exact ⟨g2.os.trans g1.os,g2.tape.trans g1.tape,g2.output.trans g1.output,Nat.le_trans g1.size g2.size,fun k hk hne=>(g2.block k (Nat.lt_of_lt_of_le hk g1.size) hne).trans (g1.block k hk hne)⟩
 obtain ⟨n,hnn⟩:∃ n,a.length=n:=⟨_,rfl⟩
 rw [hnn] at hi hj hn ⊢
 have j1:(i:Int) < (n:Int):=by omega
 have j2:(j:Int) < (n:Int):=by omega
 obtain ⟨x,hx⟩:∃ x,hg a i=x:=⟨_,rfl⟩
 obtain ⟨y,hy⟩:∃ y,hg a j=y:=⟨_,rfl⟩
 rw [hx,hy] at HE HG
 rw [hx] at c1
 rw [hy] at c2
 obtain ⟨v',hv'⟩:∃ v',((W.drew).setCell ⟨g,i,none⟩ (.int .i64 y)).cell? ⟨g,j,none⟩=some v':=by
  by_cases e:(⟨g,i,none⟩:Addr)=⟨g,j,none⟩
  ·rw [← e];exact ⟨_,World.cell?_setCell_same _ _ _ (show W.drew.cell? ⟨g,i,none⟩=some (.int .i64 x) from c1)⟩
  ·exact ⟨_,(World.cell?_setCell_other _ _ _ _ e).trans (show W.drew.cell? ⟨g,j,none⟩=some (.int .i64 y) from c2)⟩
 have f3:((W.drew).setCell ⟨g,i,none⟩ (.int .i64 y)).frozen? ⟨g,j,none⟩=false:=(World.frozen?_setCell _ _ _ _).trans f2
 have hv2:((W.setCell ⟨g,i,none⟩ (.int .i64 y)).drew).cell? ⟨g,j,none⟩=some v':=hv'
 have f4:((W.setCell ⟨g,i,none⟩ (.int .i64 y)).drew).frozen? ⟨g,j,none⟩=false:=f3
 clear hx hy h hnn
 go_enter Tryz.func175,Tryz.ntmps175
 go_wp2_with fail
 go_region
 all_goals (go_end0;exact ⟨rfl,HE.out,⟨HG.out.os,HG.out.tape,HG.out.output,HG.out.size,HG.out.block⟩⟩)
abbrev tR:TypeId:=113
def HpS (W:World) (B bn:Nat) (a:List Int):Prop:=B≤bn∧∃ v,Boxed W bn tR v∧W.ownsRow B 3 1 v a.length (iV a)
theorem HpS.bel {W W':World} {B bn:Nat} {a:List Int} (h:HpS W B bn a) (hb:Below W.heap.size W W'):HpS W' B bn a:=by
 obtain ⟨h0,v,h1,h2⟩:=h
 exact ⟨h0,v,(hb.block bn h1.lt).trans h1,h2.kept (grown_below8 none hb) (by cases v.ownBlock<;>simp)⟩
theorem cell_al11 {W:World} {p:Addr} {u:Value} (o:Obj) (h:W.cell? p=some u):(W.alloc o).cell? p=some u:=cell_bel ((Below.refl _ W).alloc (Nat.le_refl _) o) h
theorem own_shape11 {W:World} {B e k n:Nat} {v:Value} {xs:List Value} (h:W.ownsRow B e k v n xs):∃ ad c,v=.slice ad n c:=by
 rcases h.2 with ⟨rfl,rfl⟩ | ⟨g,cap,cur,rfl,_⟩
 ·exact ⟨_,_,rfl⟩
 ·exact ⟨_,_,rfl⟩
set_option maxHeartbeats 4000000 in
theorem ppush11_any (W:World) (B bn:Nat) (a:List Int) (x:Int) (hx:I64 x) (h:HpS W B bn a) (hn:a.length < 17592186044416) :
 Calls Tryz.prog 177 #[.pointer (some ⟨bn,0,none⟩),.iface 3 (.int .i64 x)] W fun e W'=>e=.returned (.tuple #[])∧HpS W' B bn (a++[x])∧Fr B bn W W':=by
 obtain ⟨i0,hi,hz0,hz1,hz2⟩:=info_parts int_info
 obtain ⟨hB,v,hb,hrow⟩:=h
 have hlt:=hb.lt
 have hne:=block_not_row hb (by decide) hrow
 obtain ⟨n,hnn⟩:∃ n,a.length=n:=⟨_,rfl⟩
 have HN:Hid (a.length=n):=hnn
 rw [hnn] at hrow hn
 clear hnn
 go_enter Tryz.func177,Tryz.ntmps177
 refine wp_region_any (by kernel_rfl) ?_
 change wpAny _ _ _ _ _ _ _ (World.drew _)
 generalize hwd:World.drew _=wd
 have hbd:Boxed wd bn tR v:=by rw [← hwd];exact hb
 have hrowd:wd.ownsRow B 3 1 v n (iV a):=by rw [← hwd];exact hrow
 have hBd:Fr B bn W wd:=by rw [← hwd];exact (Fr.refl _ _ _).drew
 have hsd:W.heap.size≤wd.heap.size:=by rw [← hwd];exact Nat.le_refl _
 have hta:∀ V,(Instr.typeAssert (.iface 3 (.int .i64 x)) 20 3 false).run Tryz.prog V=.ok (.int .i64 x) V:=fun V=>by kernel_rfl
 clear hwd
 have p0:=hbd.cell
 refine any_of_C (C:=fun V=>V.cell? ⟨bn,0,none⟩=some v) 9 _ _ _ _ ?_
 refine takeC (i:=0) (v:=.pointer (some ⟨bn,0,none⟩)) rfl (by kernel_rfl) (by kernel_rfl) (by kernel_rfl) (by kernel_rfl) (by kernel_rfl) (fun _ _ _ h=>h) (Or.inl ⟨by kernel_rfl,fun V hV=>by go_simp⟩) ?_
 refine takeC (i:=1) (v:=.pointer (some ⟨bn,0,none⟩)) rfl (by kernel_rfl) (by kernel_rfl) (by kernel_rfl) (by kernel_rfl) (by kernel_rfl) (fun _ _ _ h=>h) (Or.inl ⟨by kernel_rfl,fun V hV=>by go_simp⟩) ?_
 refine takeC (i:=2) (v:=.pointer (some ⟨bn,0,none⟩)) rfl (by kernel_rfl) (by kernel_rfl) (by kernel_rfl) (by kernel_rfl) (by kernel_rfl) (fun _ _ _ h=>h) (Or.inl ⟨by kernel_rfl,fun V hV=>by go_simp⟩) ?_
 refine takeC (i:=3) (v:=.pointer (some ⟨bn,0,none⟩)) rfl (by kernel_rfl) (by kernel_rfl) (by kernel_rfl) (by kernel_rfl) (by kernel_rfl) (fun _ _ _ h=>h) (Or.inl ⟨by kernel_rfl,fun V hV=>by go_simp⟩) ?_
 refine takeC (i:=4) (v:=v) rfl (by kernel_rfl) (by kernel_rfl) (by kernel_rfl) (by kernel_rfl) (by kernel_rfl) (fun _ _ _ h=>h) (Or.inl ⟨by kernel_rfl,fun V hV=>by go_simp⟩) ?_
 refine takeC (i:=5) (v:=.iface 3 (.int .i64 x)) rfl (by kernel_rfl) (by kernel_rfl) (by kernel_rfl) (by kernel_rfl) (by kernel_rfl) (fun _ _ _ h=>h) (Or.inl ⟨by kernel_rfl,fun V hV=>by go_simp⟩) ?_
 refine takeC (i:=6) (v:=.int .i64 x) rfl (by kernel_rfl) (by kernel_rfl) (by kernel_rfl) (by kernel_rfl) (by kernel_rfl) (fun _ _ _ h=>h) (Or.inl ⟨by kernel_rfl,fun V hV=>by go_simp⟩) ?_
 refine consC (i:=7) (by kernel_rfl) (by kernel_rfl) p0 rfl (fun K hK=>?_)
 go_wp2_with fail
 refine consC (i:=8) (by kernel_rfl) (by kernel_rfl) (cell_al11 _ p0) rfl (fun K hK=>?_)
 refine wpList_append_own_at _ rfl _ _ 111 rfl B 3 i0 (.int .i64 0) 1 8 Tryz.underlying111 hi hz0 hz1 hz2 rfl (by decide) v _ _ rfl (hrowd.alloc _) ⟨wd.heap.size,0,none⟩ 1 1 [.int .i64 x] rfl rfl ?a1 ?a2 ?a3 ?a4 ?a5 ?_
 case a1=>intro j u hj;match j,hj with
  | 0,hj=>simp at hj;subst hj;simp [Addr.add]
 case a2=>intro u hu;simp at hu;subst hu;rfl
 case a3=>unfold maxLen;omega
 case a4=>omega
 case a5=>simp;omega
 intro r3 w3 hown3 hg3 _ hat3
 obtain ⟨ad3,c3,rfl⟩:=own_shape11 hown3
 have hb3:Boxed w3 bn tR v:=(hg3.block bn (by simp;omega) hne).trans ((Below.refl _ wd).alloc (Nat.le_refl _) _ |>.block bn (by have:=hbd.lt;omega) |>.trans hbd)
 have B3:Fr B bn W w3:=(hBd.alloc (by omega) (by omega) _).row (hrowd.alloc _) (hbd.alloc _) (by decide) hg3 (by simp;omega)
 have p3:=hb3.cell
 have f3:=hb3.frozen
 go_wp2_with fail
 refine lastC (by kernel_rfl) (by kernel_rfl) p3 (of_decide_eq_true (by kernel_rfl)) ?_
 refine any_seqI [9,10,11] [_,_,_] _ _ _ rfl (by kernel_rfl) ?_
 go_wp2_with fail
 go_end0
 have hne3:(Value.slice ad3 (n+1) c3).ownBlock≠some bn:=fun e=>by
  rcases hat3 with e1 | e1
  ·exact hne (by rw [← e1,e])
  ·rw [e] at e1;have e3:=Option.some.inj e1;have e4:=hbd.lt;simp at e3;omega
 refine ⟨rfl,⟨hB,_,hb3.set _,?_⟩,B3.set hB hb3 _ (by
  rw [vblk_of hb]
  rcases hat3 with e1 | e1
  ·exact .inl e1
  ·exact .inr ⟨_,e1,by simp;omega⟩)⟩
 rw [List.length_append,HN.out,iV_app]
 exact owns_keep7 hown3 _ (fun e=>hne3 e.symm)
theorem own_cut11 {W:World} {B g c n:Nat} {a:List Int} (h:HRow W B g c a) (hn:n≤a.length):W.ownsRow B 3 1 (.slice (some ⟨g,0,none⟩) n c) n (iV (a.take n)):=by
 rcases h.2 with ⟨e,_⟩ | ⟨g',cap,cur,e,h1,h2,h3,h4,h5,h6⟩
 ·cases e
 ·obtain ⟨e1,e2⟩:g=g'∧c=cap:=by simpa using e
  subst e1 e2
  refine ⟨by rw [iV_length,List.length_take];omega,.inr ⟨g,c,cur,rfl,h1,h2,by omega,h4,h5,?_⟩⟩
  have e3:cur.toList.take (n*1)=(cur.toList.take (a.length*1)).take (n*1):=by rw [List.take_take];congr 1;omega
  rw [e3,h6]
  unfold iV
  rw [List.map_take,Nat.mul_one]
set_option maxHeartbeats 2000000 in
theorem ppop11_any (W:World) (B bn:Nat) (a:List Int) (x:Int) (h:HpS W B bn (a++[x])) (hn:a.length < 17592186044416) :
 Calls Tryz.prog 176 #[.pointer (some ⟨bn,0,none⟩)] W fun e W'=>e=.returned (.iface 3 (.int .i64 x))∧HpS W' B bn a∧Fr B bn W W':=by
 obtain ⟨hB,v,hb,hrow⟩:=h
 have hne:=block_not_row hb (by decide) hrow
 rcases hrow.2 with ⟨_,e0⟩ | ⟨g,cp,cur,rfl,hbase,hbg,k1,k2,k3,k4⟩
 ·simp at e0
 have hR:HRow W B g cp (a++[x]):=hrow
 have hcut:=own_cut11 (n:=a.length) hR (by simp)
 have c1:=hR.cell a.length (by simp)
 have e1:hg (a++[x]) a.length=x:=by simp [hg]
 rw [e1] at c1
 rw [List.take_left' rfl] at hcut
 rw [List.length_append] at hb hrow k1
 simp only [List.length_singleton] at hb hrow k1
 have HE:Hid (HpS (W.setCell ⟨bn,0,none⟩ (.slice (some ⟨g,0,none⟩) a.length cp)) B bn a):=⟨hB,_,hb.set _,owns_keep7 hcut _ (fun e=>hne (by rw [e];simp [Value.ownBlock]))⟩
 obtain ⟨n,hnn⟩:∃ n,a.length=n:=⟨_,rfl⟩
 rw [hnn] at hb c1 hn k1 HE
 have Hbx:Hid (Boxed W bn tR (.slice (some ⟨g,0,none⟩) (n+1) cp)):=hb
 have p0:=hb.cell
 have f0:=hb.frozen
 have k2':cp≤9223372036854775807:=by unfold maxLen at k2;omega
 clear hnn hrow hcut hR e1 k2 k3 k4
 have j1:(n:Int) < (n:Int)+1:=by omega
 have j2:(n:Int)≤(cp:Int):=by omega
 have j3:n≤cp:=by omega
 have w1:IntKind.i64.wrap ((n:Int)+1 - 1)=(n:Int):=by rw [IntKind.wrap_i64];omega
 go_enter Tryz.func176,Tryz.ntmps176
 go_wp2_with fail
 go_ret
 exact ⟨rfl,HE.out,(Fr.refl _ _ _).set hB Hbx.out _ (.inl (by rw [vblk_of Hbx.out];rfl))⟩
end Go.Proofs.YtiihegldhnlleaaGreat
namespace Go.Proofs.YtiihegldhnlleaaGreat
set_option maxRecDepth 100000
open Go.RowKit
set_option linter.unusedVariables false
attribute [local go_sem] ba_size
abbrev tPR:TypeId:=142
abbrev ifR (bn:Nat):Value:=.iface tPR (.pointer (some ⟨bn,0,none⟩))
section
variable (b:Nat) (W:World)
theorem nil_len:(nilAhead 302 142 (.pointer (some ⟨b,0,none⟩)) "Len").run Tryz.prog W=.ok (some false) W:=by kernel_rfl
theorem nil_less:(nilAhead 302 142 (.pointer (some ⟨b,0,none⟩)) "Less").run Tryz.prog W=.ok (some false) W:=by kernel_rfl
theorem nil_swap:(nilAhead 302 142 (.pointer (some ⟨b,0,none⟩)) "Swap").run Tryz.prog W=.ok (some false) W:=by kernel_rfl
theorem nil_push:(nilAhead 302 142 (.pointer (some ⟨b,0,none⟩)) "Push").run Tryz.prog W=.ok (some false) W:=by kernel_rfl
theorem nil_pop:(nilAhead 302 142 (.pointer (some ⟨b,0,none⟩)) "Pop").run Tryz.prog W=.ok (some false) W:=by kernel_rfl
theorem m_push:(method 302 142 (.pointer (some ⟨b,0,none⟩)) "Push").run Tryz.prog W=.ok (177,.pointer (some ⟨b,0,none⟩)) W:=by kernel_rfl
theorem m_pop:(method 302 142 (.pointer (some ⟨b,0,none⟩)) "Pop").run Tryz.prog W=.ok (176,.pointer (some ⟨b,0,none⟩)) W:=by kernel_rfl
theorem m_len {v:Value} (h:W.cell? ⟨b,0,none⟩=some v):(method 302 142 (.pointer (some ⟨b,0,none⟩)) "Len").run Tryz.prog W=.ok (78,v) W:=by
 have e:(method 302 142 (.pointer (some ⟨b,0,none⟩)) "Len").run Tryz.prog W=(do let v ← load ⟨b,0,none⟩;pure (78,v):Sem (FuncId × Value)).run Tryz.prog W:=by kernel_rfl
 rw [e]
 go_simp
theorem m_less {v:Value} (h:W.cell? ⟨b,0,none⟩=some v):(method 302 142 (.pointer (some ⟨b,0,none⟩)) "Less").run Tryz.prog W=.ok (173,v) W:=by
 have e:(method 302 142 (.pointer (some ⟨b,0,none⟩)) "Less").run Tryz.prog W=(do let v ← load ⟨b,0,none⟩;pure (173,v):Sem (FuncId × Value)).run Tryz.prog W:=by kernel_rfl
 rw [e]
 go_simp
theorem m_swap {v:Value} (h:W.cell? ⟨b,0,none⟩=some v):(method 302 142 (.pointer (some ⟨b,0,none⟩)) "Swap").run Tryz.prog W=.ok (175,v) W:=by
 have e:(method 302 142 (.pointer (some ⟨b,0,none⟩)) "Swap").run Tryz.prog W=(do let v ← load ⟨b,0,none⟩;pure (175,v):Sem (FuncId × Value)).run Tryz.prog W:=by kernel_rfl
 rw [e]
 go_simp
end
theorem HpS.row {W:World} {B bn:Nat} {a:List Int} (h:HpS W B bn a) (h0:0 < a.length):∃ g cp,B≤bn∧Boxed W bn tR (.slice (some ⟨g,0,none⟩) a.length cp)∧HRow W B g cp a∧B≤g∧g≠bn:=by
 obtain ⟨hB,v,hb,hrow⟩:=h
 have hne:=block_not_row hb (by decide) hrow
 rcases hrow.2 with ⟨_,e0⟩ | ⟨g,cp,cur,rfl,hbase,_⟩
 ·omega
 ·exact ⟨g,cp,hB,hb,hrow,hbase,fun e=>hne (by rw [e];simp [Value.ownBlock])⟩
theorem HpS.of_swap {W W':World} {B bn g cp:Nat} {a b:List Int} (hl:b.length=a.length) (hB:B≤bn) (hb:Boxed W bn tR (.slice (some ⟨g,0,none⟩) a.length cp)) (hne:g≠bn) (hr:HRow W' B g cp b) (hg:W.grownBy W' (some g)):HpS W' B bn b :=
 ⟨hB,_,hb.kept hg (fun e=>hne (by simpa using e.symm)),by rw [← hl];exact hr⟩
set_option maxHeartbeats 4000000 in
theorem pup11_any (W:World) (B bn:Nat) (a:List Int) (n:Nat) (hl:a.length=n+1) (h:HpS W B bn a) (hU:UpI a n (n+1)) (hn:n < 17592186044416) :
 Calls Tryz.prog 122 #[ifR bn,.int .i64 (n:Int)] W fun e W'=>e=.returned (.tuple #[])∧(∃ b,HpS W' B bn b∧b.Perm a∧HeapN b (n+1))∧Fr B bn W W':=by
 have HLen:Hid (a.length=n+1):=hl
 have HUp:Hid (UpI a n (n+1)):=hU
 have HH:Hid (HpS W B bn a):=h
 clear hl hU h
 go_enter Tryz.func122,Tryz.ntmps122
 go_wp2_with fail
 go_loopw [1] (fun jv wr=>∃ (j:Nat) (b:List Int),jv=.int .i64 (j:Int)∧j≤n∧Hid (b.length=n+1)∧Hid (HpS wr B bn b)∧Hid (b.Perm a)∧Hid (UpI b j (n+1))∧Fr B bn W wr) (fun jv _=>(intOf jv).toNat)
 case atStart=>exact ⟨n,a,rfl,Nat.le_refl _,HLen,HH,List.Perm.refl _,HUp,Fr.refl _ _ _⟩
 case round =>
  obtain ⟨j,b,rfl,hj,HL,HS,HP,HI,hbw⟩:=hrel
  by_cases h0:j=0
  ·subst h0
   have HR:Hid (∃ b,HpS wr B bn b∧b.Perm a∧HeapN b (n+1)):=⟨b,HS.out,HP.out,upI_zero HI.out⟩
   go_wp2_with fail
   go_end0
   exact ⟨rfl,HR.out,hbw⟩
  ·have hl1:=HL.out
   obtain ⟨g,cp,hB,hb,hr,hBg,hgne⟩:=HS.out.row (by omega)
   have p0:=hb.cell
   have q1:=nil_less bn wr
   have q2:=m_less bn wr p0
   have CL:=pless11_any wr B g cp b hr j ((j - 1) / 2) (by omega) (by omega) (by omega)
   have HRr:Hid (HRow wr B g cp b):=hr
   have HBx:Hid (Boxed wr bn tR (.slice (some ⟨g,0,none⟩) b.length cp)):=hb
   obtain ⟨i,hi⟩:∃ i,(j - 1) / 2=i:=⟨_,rfl⟩
   have HIi:Hid ((j - 1) / 2=i):=hi
   rw [hi] at CL
   have hij:i < j:=by omega
   have e1:Int.tdiv ((j:Int) - 1) 2=(i:Int):=by
    rw [← hi,Int.tdiv_eq_ediv_of_nonneg (by omega)];omega
   have e2:((i:Int)==(j:Int))=false:=by simp;omega
   clear hi
   by_cases hlt:hg b j < hg b i
   ·rw [decide_eq_true hlt] at CL
    have HI2:Hid (UpI (swL b i j) i (n+1)):=by
     have:=upI_step HI.out (by omega) (by omega) (by omega) (by rw [HIi.out];exact hlt)
     rw [HIi.out] at this
     exact this
    have HP2:Hid ((swL b i j).Perm a):=(swL_perm b i j (by omega) (by omega)).trans HP.out
    have HL2:Hid ((swL b i j).length=n+1):=(swL_len b i j).trans hl1
    rw [hl1] at hb p0 q2 CL
    clear hlt hb hr
    go_wp2_with fail
    refine CL.mono ?_
    rintro e w1 ⟨rfl,b1⟩
    have hb1:=boxed_below7 HBx.out b1
    have hr1:HRow w1 B g cp b:=HRr.out.kept (grown_below8 none b1) (by simp [Value.ownBlock])
    have p1:=hb1.cell
    have q3:=nil_swap bn w1
    have q4:=m_swap bn w1 p1
    have CS:=pswap11_any w1 B g cp b hr1 i j (by omega) (by omega) (by omega)
    have B1:Fr B bn W w1:=hbw.andBelow b1 (by have:=HBx.out.lt;omega) HBx.out.lt
    have HBx1:Hid (Boxed w1 bn tR (.slice (some ⟨g,0,none⟩) b.length cp)):=hb1
    have HRr1:Hid (HRow w1 B g cp b):=hr1
    rw [hl1] at p1 q4 CS
    clear hb1 hr1
    go_wp2_with fail
    refine CS.mono ?_
    rintro e w2 ⟨rfl,hr2,g2⟩
    have HS2:Hid (HpS w2 B bn (swL b i j)):=HpS.of_swap (swL_len b i j) hB HBx1.out hgne hr2 g2
    have B2:Fr B bn W w2:=B1.row HRr1.out HBx1.out (by decide) g2 (by have:=HBx1.out.lt;omega)
    go_wp2_with fail
    refine ⟨⟨i,swL b i j,by first | go_num | simp,by omega,HL2,HS2,HP2,HI2,B2⟩,by simp [intOf];omega⟩
   ·rw [decide_eq_false hlt] at CL
    have HR:Hid (HeapN b (n+1)):=upI_stop HI.out (by rw [HIi.out];omega)
    rw [hl1] at hb p0 q2 CL
    clear hlt hb hr
    go_wp2_with fail
    refine CL.mono ?_
    rintro e w1 ⟨rfl,b1⟩
    have B1:Fr B bn W w1:=hbw.andBelow b1 (by have:=HBx.out.lt;omega) HBx.out.lt
    have HE:Hid (∃ b,HpS w1 B bn b∧b.Perm a∧HeapN b (n+1)):=⟨b,HS.out.bel b1,HP.out,HR.out⟩
    go_wp2_with fail
    go_end0
    exact ⟨rfl,HE.out,B1⟩
end Go.Proofs.YtiihegldhnlleaaGreat
namespace Go.Proofs.YtiihegldhnlleaaGreat
set_option maxRecDepth 100000
set_option linter.unusedVariables false
def leftL (nodes:List Int) (S:Int→Bool):List Int:=nodes.filter S
theorem free_inC (nodes:List Int) (l:List Stp) (S:Int→Bool) (hS:∀ x,S x=true→x∈nodes) (x:Int):freeP l (leftL nodes S) x↔inC l S x=0:=by
 have hm:∀ y,y∈leftL nodes S↔S y=true:=fun y=>by
  unfold leftL;rw [List.mem_filter]
  exact ⟨fun h=>h.2,fun h=>⟨hS y h,h⟩⟩
 unfold freeP inC
 rw [List.countP_eq_zero]
 constructor
 ·intro h s hs
  simp only [Bool.and_eq_true,decide_eq_true_eq]
  rintro ⟨h1,h2⟩
  exact h s hs ⟨h1,(hm _).2 h2⟩
 ·intro h s hs hh
  have:=h s hs
  simp only [Bool.and_eq_true,decide_eq_true_eq] at this
  exact this ⟨hh.1,(hm _).1 hh.2⟩
def Zeros (c:Cnt) (a:List Int):Prop:=a.Nodup∧∀ x,x∈a↔∃ q,c x=some (0,q)
theorem next_best (nodes:List Int) (l:List Stp) (S:Int→Bool) (hS:∀ x,S x=true→x∈nodes) (a:List Int) (hz:Zeros (cntF l S) a) (x:Int) (b:List Int) (hp:Popped a x b) :
 bestL l (leftL nodes S)=some x∧S x=true∧inC l S x=0∧x ∉ b:=by
 obtain ⟨p1,p2,p3⟩:=hp
 have hm:∀ y,y∈leftL nodes S↔S y=true:=fun y=>by
  unfold leftL;rw [List.mem_filter]
  exact ⟨fun h=>h.2,fun h=>⟨hS y h,h⟩⟩
 have hmem:∀ y,y∈a↔S y=true∧inC l S y=0:=fun y=>by
  rw [hz.2 y]
  unfold cntF
  by_cases h:S y=true
  ·rw [if_pos h];simp [h]
  ·rw [if_neg h];simp [h]
 have hxa:x∈a:=p2.mem_iff.2 (List.mem_cons_self ..)
 obtain ⟨h1,h2⟩:=(hmem x).1 hxa
 refine ⟨?_,h1,h2,?_⟩
 ·rw [best_some]
  refine ⟨⟨(hm x).2 h1,(free_inC nodes l S hS x).2 h2⟩,fun y hy hf=>p3 y ((hmem y).2 ⟨(hm y).1 hy,(free_inC nodes l S hS y).1 hf⟩)⟩
 ·have:=p2.nodup_iff.1 hz.1
  exact (List.nodup_cons.1 this).1
theorem no_best (nodes:List Int) (l:List Stp) (S:Int→Bool) (hS:∀ x,S x=true→x∈nodes) (hz:Zeros (cntF l S) []):bestL l (leftL nodes S)=none:=by
 rw [best_none]
 intro y hy hf
 have h0:=(free_inC nodes l S hS y).1 hf
 have hSy:S y=true:=(List.mem_filter.1 hy).2
 have:y∈([]:List Int):=(hz.2 y).2 ⟨(outC l S y:Int),by unfold cntF;rw [if_pos hSy,h0];rfl⟩
 cases this
theorem left_drop (nodes:List Int) (S:Int→Bool) (x:Int):leftL nodes (dropB S x)=(leftL nodes S).filter fun y=>decide (y≠x):=by
 unfold leftL dropB
 rw [List.filter_filter]
 refine List.filter_congr fun y _=>?_
 by_cases h:y=x
 ·simp [h]
 ·simp [h]
theorem zeros_del (l:List Stp) (S:Int→Bool) (a b:List Int) (x:Int) (hz:Zeros (cntF l S) a) (hp:a.Perm (x::b)):Zeros (delC (cntF l S) x) b:=by
 have hn:=hp.nodup_iff.1 hz.1
 refine ⟨(List.nodup_cons.1 hn).2,fun y=>?_⟩
 unfold delC
 by_cases e:y=x
 ·subst e
  rw [if_pos rfl]
  constructor
  ·intro h;exact absurd h (List.nodup_cons.1 hn).1
  ·rintro ⟨q,h⟩;cases h
 ·rw [if_neg e,← hz.2 y,hp.mem_iff,List.mem_cons]
  constructor
  ·intro h;exact .inr h
  ·rintro (h | h)
   ·exact absurd h e
   ·exact h
theorem zeros_push {c:Cnt} {a b:List Int} {y p q:Int} (hz:Zeros c a) (hc:c y=some (p,q)) (hp:0 < p) (h1:p - 1=0) (hb:b.Perm (y::a)):Zeros (updC c y (p - 1,q)) b:=by
 have hya:y ∉ a:=fun h=>by
  obtain ⟨r,h⟩:=(hz.2 y).1 h
  rw [hc] at h
  simp at h
  omega
 refine ⟨hb.nodup_iff.2 (List.nodup_cons.2 ⟨hya,hz.1⟩),fun x=>?_⟩
 rw [hb.mem_iff,List.mem_cons,hz.2 x]
 unfold updC
 by_cases e:x=y
 ·subst e;rw [if_pos rfl,h1];simp
 ·rw [if_neg e];simp [e]
theorem zeros_stay {c:Cnt} {a:List Int} {y p q:Int} (hz:Zeros c a) (hc:c y=some (p,q)) (hp:0 < p) (h1:p - 1≠0):Zeros (updC c y (p - 1,q)) a:=by
 refine ⟨hz.1,fun x=>?_⟩
 rw [hz.2 x]
 unfold updC
 by_cases e:x=y
 ·subst e
  rw [if_pos rfl,hc]
  constructor
  ·rintro ⟨r,h⟩;simp at h;omega
  ·rintro ⟨r,h⟩;simp at h;exact absurd h.1 h1
 ·rw [if_neg e]
theorem pos_before (l:List Stp) (S0 S:Int→Bool) (x:Int) (hx:S x=true) (hs:∀ y,S y=true→S0 y=true) (i:Nat) (hi:i < (outX l S0 x).length) (p:Int × Int) (hp:s1 (delC (cntF l S) x) (outX l S0 x) i (outX l S0 x)[i]=some p):0 < p.1:=by
 obtain ⟨X,hX⟩:∃ X,outX l S0 x=X:=⟨_,rfl⟩
 obtain ⟨y,hy⟩:∃ y,(outX l S0 x)[i]=y:=⟨_,rfl⟩
 rw [hy] at hp
 unfold s1 at hp
 rw [s1_at] at hp
 unfold delC cntF at hp
 by_cases e:y=x
 ·rw [if_pos e] at hp;cases hp
 ·rw [if_neg e] at hp
  by_cases h:S y=true
  ·rw [if_pos h] at hp
   simp only [Option.map_some,Option.some.injEq] at hp
   rw [← hp]
   simp only
   have h1:=outX_count l S0 x y (hs x hx) (hs y h)
   have h2:=inC_drop l S x y hx
   have h3:((outX l S0 x).take (i+1)).count y≤(outX l S0 x).count y:=List.Sublist.count_le _ (List.take_sublist _ _)
   rw [List.take_succ_eq_append_getElem hi,List.count_append,hy] at h3
   simp at h3
   omega
  ·rw [if_neg h] at hp;cases hp
theorem none_before (l:List Stp) (S0 S:Int→Bool) (x:Int) (h0:inC l S x=0) (c:Cnt) (hc:∀ y,(c y).isSome=true→S y=true) (i:Nat) (hi:i < (inX l S0 x).length):s2 c (inX l S0 x) i (inX l S0 x)[i]=none:=by
 obtain ⟨y,hy⟩:∃ y,(inX l S0 x)[i]=y:=⟨_,rfl⟩
 rw [hy]
 unfold s2
 rw [s2_at]
 cases hcy:c y with
 | none=>rfl
 | some p =>
   exfalso
   have hS:=hc y (by rw [hcy];rfl)
   have hm:y∈inX l S0 x:=by rw [← hy];exact List.getElem_mem hi
   unfold inX at hm
   obtain ⟨j,hj,e⟩:=List.mem_map.1 hm
   obtain ⟨j1,j2,j3,j4⟩:=(to_mem l S0 x j).1 hj
   unfold inC at h0
   rw [List.countP_eq_zero] at h0
   have:=h0 _ (stA_mem l j j1)
   simp only [Bool.and_eq_true,decide_eq_true_eq] at this
   exact this ⟨j2,by rw [e];exact hS⟩
theorem s1_dom (c:Cnt) (X:List Int) (y:Int):(X.foldl st1 c y).isSome=(c y).isSome:=by rw [s1_at,Option.isSome_map]
theorem del_dom (l:List Stp) (S:Int→Bool) (x y:Int) (h:(delC (cntF l S) x y).isSome=true):S y=true:=by
 unfold delC cntF at h
 by_cases e:y=x
 ·rw [if_pos e] at h;cases h
 ·rw [if_neg e] at h
  by_cases hs:S y=true
  ·exact hs
  ·rw [if_neg hs] at h;cases h
theorem zeros_all (l:List Stp) (N a:List Int) (hn:N.Nodup) (ha:a.Nodup) (hm:∀ x,x∈a↔x∈N∧inC l (fun y=>decide (y∈N)) x=0):Zeros (cntF l fun y=>decide (y∈N)) a:=by
 refine ⟨ha,fun x=>?_⟩
 rw [hm x]
 unfold cntF
 by_cases h:x∈N
 ·simp [h]
 ·simp [h]
open Go.Shelf
def lays20I_ren:Go.Shelf.Ren:=⟨fun | 20=>107 | n=>n,fun | 22=>23 | 0=>0 | 3=>3 | 4=>4 | n=>n,fun | n=>n⟩
theorem lays20I:Go.Proofs.Lays2.n20 Tryz.prog lays20I_ren:={
 mixed:=by kernel_rfl
 f20:=Tryz.func107.trans (congrArg some (by kernel_rfl))
 t0:=Tryz.underlying0
 a0:=Tryz.isAgg0
 z0:=Tryz.sizeOf0
 v0:=Tryz.zeroValue0
 t3:=Tryz.underlying3
 a3:=Tryz.isAgg3
 z3:=Tryz.sizeOf3
 v3:=Tryz.zeroValue3
 t4:=Tryz.underlying4
 a4:=Tryz.isAgg4
 z4:=Tryz.sizeOf4
 v4:=Tryz.zeroValue4
 t22:=Tryz.underlying23
 a22:=Tryz.isAgg23
 z22:=Tryz.sizeOf23
 v22:=Tryz.zeroValue23
 i3:=by kernel_rfl }
theorem pcompI_any (blk off cap:Nat) (zs:List Int) (w:World) (hH:Go.Sort.Holds (Value.int .i64) w blk off zs.toArray) (hsz:zs.length≤9223372036854775807) (hcap:zs.length≤cap) :
 Calls Tryz.prog 107 #[.slice (some ⟨blk,off,none⟩) zs.length cap] w fun e w'=>e=.returned (.slice (some ⟨blk,off,none⟩) (Lib.compact zs).length cap)∧∃ q,w'=Go.Sort.putRow (Value.int .i64) (Sort.ahead w q) blk off (Lib.compact zs++List.replicate (zs.length - (Lib.compact zs).length) 0).toArray :=
 Any.slices_Compact_int lays20I blk off cap zs w hH hsz hcap
theorem pcompI_none (a:Option Addr) (cap:Nat) (w:World):Calls Tryz.prog 107 #[.slice a 0 cap] w fun e w'=>e=.returned (.slice a 0 cap)∧w'=w :=
 Any.slices_Compact_int_empty lays20I a cap w
end Go.Proofs.YtiihegldhnlleaaGreat
namespace Go.Proofs.YtiihegldhnlleaaGreat
set_option maxRecDepth 100000
set_option linter.unusedVariables false
def Cyc (l:List Stp) (n:Nat) (f:Nat→Int):Prop:=1≤n∧f n=f 0∧∀ i,i < n→∃ s∈l,s.1=f i∧s.2.1=f (i+1)
theorem cyc_of_walk {l:List Stp} {n:Nat} {x:Int} (h1:1≤n) (h:Walk l n x x):∃ f,f 0=x∧Cyc l n f:=by
 obtain ⟨f,f0,fn,hf⟩:=h.along
 exact ⟨f,f0,h1,by rw [fn,f0],hf⟩
def lS (l:List Stp) (S:Int→Bool):List Stp:=l.filter fun s=>S s.1&&S s.2.1
theorem lS_mem (l:List Stp) (S:Int→Bool) (s:Stp):s∈lS l S↔s∈l∧S s.1=true∧S s.2.1=true:=by
 unfold lS;rw [List.mem_filter,Bool.and_eq_true]
theorem Walk.sub {l m:List Stp} (h:∀ s∈l,s∈m) {n:Nat} {x y:Int} (hw:Walk l n x y):Walk m n x y:=by
 induction hw using Walk.elim with
 | nil x=>exact .nil x
 | cons s n y hs _ ih=>exact .cons s n y (h s hs) ih
theorem walk_lS {l:List Stp} {S:Int→Bool} {n:Nat} {x y:Int} (h:Walk (lS l S) n x y):Walk l n x y:=h.sub fun s hs=>((lS_mem l S s).1 hs).1
theorem part_lS {l:List Stp} {S:Int→Bool} {f:Nat→Int} {n:Nat} (hf:∀ i,i < n→∃ s∈l,s.1=f i∧s.2.1=f (i+1)) (hS:∀ i,i≤n→S (f i)=true) (d i:Nat) (h:i+d≤n):Walk (lS l S) d (f i) (f (i+d)) :=
 walk_part (l:=lS l S) (n:=n) (fun j hj=>by
  obtain ⟨s,h1,h2,h3⟩:=hf j hj
  exact ⟨s,(lS_mem l S s).2 ⟨h1,by rw [h2];exact hS j (by omega),by rw [h3];exact hS (j+1) (by omega)⟩,h2,h3⟩) d i h
def AllIn (l:List Stp) (T S:Int→Bool):Prop:=∀ n f,Cyc l n f→(∀ i,i < n→T (f i)=false)→∀ i,i < n→S (f i)=true
theorem cyc_pred {l:List Stp} {n:Nat} {f:Nat→Int} (h:Cyc l n f) (i:Nat) (hi:i < n):∃ j,j < n∧∃ s∈l,s.1=f j∧s.2.1=f i:=by
 rcases Nat.eq_zero_or_pos i with h0 | h0
 ·obtain ⟨s,a,b,c⟩:=h.2.2 (n - 1) (by have:=h.1;omega)
  rw [show n - 1+1=n by have:=h.1;omega,h.2.1] at c
  exact ⟨n - 1,by have:=h.1;omega,s,a,b,by rw [h0];exact c⟩
 ·obtain ⟨s,a,b,c⟩:=h.2.2 (i - 1) (by omega)
  rw [show i - 1+1=i by omega] at c
  exact ⟨i - 1,by omega,s,a,b,c⟩
theorem cyc_succ {l:List Stp} {n:Nat} {f:Nat→Int} (h:Cyc l n f) (i:Nat) (hi:i < n):∃ j,j < n∧∃ s∈l,s.1=f i∧s.2.1=f j:=by
 obtain ⟨s,a,b,c⟩:=h.2.2 i hi
 rcases Nat.lt_or_ge (i+1) n with h1 | h1
 ·exact ⟨i+1,h1,s,a,b,c⟩
 ·have e:i+1=n:=by omega
  rw [e,h.2.1] at c
  exact ⟨0,by omega,s,a,b,c⟩
theorem AllIn.strip {l:List Stp} {T S:Int→Bool} (h:AllIn l T S) (x:Int) (hx:inC l S x=0∨outC l S x=0):AllIn l T (dropB S x):=by
 intro n f hc hT i hi
 have hS:=h n f hc hT
 unfold dropB
 rw [hS i hi]
 simp only [Bool.true_and,Bool.not_eq_true',decide_eq_false_iff_not]
 intro e
 rcases hx with hx | hx
 ·obtain ⟨j,hj,s,s1,s2,s3⟩:=cyc_pred hc i hi
  unfold inC at hx
  rw [List.countP_eq_zero] at hx
  have:=hx s s1
  simp only [Bool.and_eq_true,decide_eq_true_eq] at this
  exact this ⟨by rw [s3,e],by rw [s2];exact hS j hj⟩
 ·obtain ⟨j,hj,s,s1,s2,s3⟩:=cyc_succ hc i hi
  unfold outC at hx
  rw [List.countP_eq_zero] at hx
  have:=hx s s1
  simp only [Bool.and_eq_true,decide_eq_true_eq] at this
  exact this ⟨by rw [s2,e],by rw [s3];exact hS j hj⟩
def addB (T:Int→Bool) (x:Int):Int→Bool:=fun u=>T u || decide (u=x)
theorem AllIn.take {l:List Stp} {T S:Int→Bool} (h:AllIn l T S) (x:Int):AllIn l (addB T x) (dropB S x):=by
 intro n f hc hT i hi
 have h1:∀ i,i < n→T (f i)=false∧f i≠x:=fun i hi=>by
  have:=hT i hi
  unfold addB at this
  simpa using this
 have hS:=h n f hc (fun i hi=>(h1 i hi).1) i hi
 unfold dropB
 rw [hS]
 simpa using (h1 i hi).2
def BestOk (l:List Stp) (T:Int→Bool):Option (Int × Nat)→Prop
 | none=>∀ n f,Cyc l n f→∀ i,i < n→T (f i)=false
 | some b=>(∀ n f,Cyc l n f→(∃ i,i < n∧T (f i)=true)→b.2≤n)∧1≤b.2∧Walk l b.2 b.1 b.1∧∀ y,y < b.1→¬ Walk l b.2 y y
def mostOf:Option (Int × Nat)→Nat
 | none=>0
 | some b=>b.2
theorem short_in {l:List Stp} {T S:Int→Bool} {best:Option (Int × Nat)} (hA:AllIn l T S) (hB:BestOk l T best) {n:Nat} {f:Nat→Int} (hc:Cyc l n f) (hn:mostOf best=0∨n < mostOf best):∀ i,i < n→S (f i)=true:=by
 refine hA n f hc fun i hi=>?_
 cases best with
 | none=>exact hB n f hc i hi
 | some b =>
   cases h:T (f i) with
   | false=>rfl
   | true =>
     have:=hB.1 n f hc ⟨i,hi,h⟩
     have:=hB.2.1
     simp only [mostOf] at hn
     omega
theorem cyc_all {l:List Stp} {S:Int→Bool} {n:Nat} {f:Nat→Int} (hc:Cyc l n f) (h:∀ i,i < n→S (f i)=true):∀ i,i≤n→S (f i)=true:=fun i hi=>by
 rcases Nat.lt_or_ge i n with h1 | h1
 ·exact h i h1
 ·obtain rfl:i=n:=by omega
  rw [hc.2.1]
  exact h 0 (by have:=hc.1;omega)
def ShOk (l:List Stp) (S:Int→Bool) (start:Int) (most many:Nat) (away:Int→Option Nat):Prop :=
 (many=0→∀ n,1≤n→(most=0∨n < most)→¬ Walk (lS l S) n start start) ∧
 (0 < many→Walk (lS l S) many start start∧(most=0∨many < most)∧(∀ n,1≤n→Walk (lS l S) n start start→many≤n) ∧
  ∀ y d,d < many→(away y=some d↔Walk (lS l S) d y start∧∀ d',d' < d→¬ Walk (lS l S) d' y start))
theorem best_new {l:List Stp} {T S:Int→Bool} {best:Option (Int × Nat)} {start:Int} {many:Nat} {away:Int→Option Nat} (N:List Int) (k:Nat) (hk:k < N.length) (hN:N.Pairwise (·< ·)) (hst:N[k]=start) (hSN:∀ x,S x=true→x∈N) (hD:∀ x∈N.take k,S x=false)
 (hA:AllIn l T S) (hB:BestOk l T best) (hsh:ShOk l S start (mostOf best) many away) (h0:0 < many):BestOk l (addB T start) (some (start,many)):=by
 obtain ⟨w1,w2,w3,w4⟩:=hsh.2 h0
 refine ⟨fun n f hc hex=>?_,h0,walk_lS w1,fun y hy hw=>?_⟩
 ·simp only
  rcases Nat.lt_or_ge n many with hlt | hge
  ·exfalso
   have hin:=short_in hA hB hc (by omega)
   obtain ⟨i,hi,hTi⟩:=hex
   have hall:=cyc_all hc hin
   by_cases hTT:T (f i)=true
   ·cases best with
    | none=>rw [hB n f hc i hi] at hTT;cases hTT
    | some b=>have:=hB.1 n f hc ⟨i,hi,hTT⟩;have:=hB.2.1;simp only [mostOf] at w2;omega
   ·have hfi:f i=start:=by
     unfold addB at hTi
     simpa [hTT] using hTi
    have h1:=part_lS hc.2.2 hall (n - i) i (by omega)
    rw [show i+(n - i)=n by omega,hc.2.1] at h1
    have h2:=part_lS hc.2.2 hall i 0 (by omega)
    rw [Nat.zero_add] at h2
    have h3:=h1.append h2
    rw [show n - i+i=n by omega,hfi] at h3
    have:=w3 n hc.1 h3
    omega
  ·exact hge
 ·simp only at hw hy
  obtain ⟨f,f0,hc⟩:=cyc_of_walk h0 hw
  have hin:=short_in hA hB hc w2 0 (by omega)
  rw [f0] at hin
  have hyN:=hSN y hin
  obtain ⟨j,hj,e⟩:=List.getElem_of_mem hyN
  have hjk:j < k:=by
   rcases Nat.lt_or_ge j k with h | h
   ·exact h
   ·exfalso
    rcases Nat.lt_or_ge k j with h' | h'
    ·have:=(List.pairwise_iff_getElem.1 hN) k j hk hj h'
     omega
    ·obtain rfl:j=k:=by omega
     omega
  have:y∈N.take k:=by
   rw [← e]
   exact List.mem_take_iff_getElem.2 ⟨j,by omega,rfl⟩
  rw [hD y this] at hin
  cases hin
theorem best_same {l:List Stp} {T S:Int→Bool} {best:Option (Int × Nat)} {start:Int} {away:Int→Option Nat} (hA:AllIn l T S) (hB:BestOk l T best) (hsh:ShOk l S start (mostOf best) 0 away):BestOk l (addB T start) best:=by
 have key:∀ n f,Cyc l n f→(mostOf best=0∨n < mostOf best)→∀ i,i < n→f i≠start:=fun n f hc hn i hi e=>by
  have hall:=cyc_all hc (short_in hA hB hc hn)
  have h1:=part_lS hc.2.2 hall (n - i) i (by omega)
  rw [show i+(n - i)=n by omega,hc.2.1] at h1
  have h2:=part_lS hc.2.2 hall i 0 (by omega)
  rw [Nat.zero_add] at h2
  have h3:=h1.append h2
  rw [show n - i+i=n by omega,e] at h3
  exact hsh.1 rfl n hc.1 hn h3
 cases best with
 | none =>
   intro n f hc i hi
   unfold addB
   rw [hB n f hc i hi]
   simpa using key n f hc (.inl rfl) i hi
 | some b =>
   refine ⟨fun n f hc hex=>?_,hB.2⟩
   rcases Nat.lt_or_ge n b.2 with hlt | hge
   ·obtain ⟨i,hi,hTi⟩:=hex
    unfold addB at hTi
    rw [Bool.or_eq_true] at hTi
    rcases hTi with h | h
    ·exact hB.1 n f hc ⟨i,hi,h⟩
    ·exact absurd (by simpa using h) (key n f hc (.inr hlt) i hi)
   ·exact hge
def AwOk (l:List Stp) (start:Int) (many:Nat) (away:Int→Option Nat):Prop:=∀ (j rest:Nat) (s:Stp),s∈l→Walk l j start s.1→j+1+rest=many→(away s.2.1=some rest↔Walk l rest s.2.1 start)
theorem aw_ok {l:List Stp} {T S:Int→Bool} {best:Option (Int × Nat)} {start:Int} {many:Nat} {away:Int→Option Nat} (hA:AllIn l T S) (hB:BestOk l T best) (hsh:ShOk l S start (mostOf best) many away) (h0:0 < many):AwOk l start many away:=by
 obtain ⟨w1,w2,w3,w4⟩:=hsh.2 h0
 intro j rest s hs hj hjr
 constructor
 ·intro h
  exact walk_lS ((w4 _ rest (by omega)).1 h).1
 ·intro h
  obtain ⟨f,f0,fj,hf⟩:=hj.along
  obtain ⟨g,g0,gr,hg⟩:=h.along
  obtain ⟨F,hF⟩:∃ F:Nat→Int,∀ i,F i=if i≤j then f i else g (i - (j+1)):=⟨_,fun i=>rfl⟩
  have hF0:F 0=start:=by rw [hF,if_pos (by omega),f0]
  have hFn:F many=start:=by rw [hF,if_neg (by omega),show many - (j+1)=rest by omega,gr]
  have hFj:F (j+1)=s.2.1:=by rw [hF,if_neg (by omega),Nat.sub_self,g0]
  have hstep:∀ i,i < many→∃ t∈l,t.1=F i∧t.2.1=F (i+1):=fun i hi=>by
   rcases Nat.lt_trichotomy i j with h1 | h1 | h1
   ·rw [hF,hF,if_pos (by omega),if_pos (by omega)]
    exact hf i h1
   ·subst h1
    exact ⟨s,hs,by rw [hF,if_pos (by omega),fj],hFj.symm⟩
   ·rw [hF,hF,if_neg (by omega),if_neg (by omega),show i+1 - (j+1)=i - (j+1)+1 by omega]
    exact hg (i - (j+1)) (by omega)
  have hc:Cyc l many F:=⟨h0,by rw [hFn,hF0],hstep⟩
  have hall:=cyc_all hc (short_in hA hB hc w2)
  have p1:=part_lS hstep hall rest (j+1) (by omega)
  rw [show j+1+rest=many by omega,hFn,hFj] at p1
  refine (w4 _ rest (by omega)).2 ⟨p1,fun d' hd hw=>?_⟩
  have p2:=part_lS hstep hall (j+1) 0 (by omega)
  rw [Nat.zero_add,hF0,hFj] at p2
  have:=w3 (j+1+d') (by omega) (p2.append hw)
  omega
theorem ring_end {l:List Stp} {T S:Int→Bool} {best:Option (Int × Nat)} (N:List Int) (hN:∀ s∈l,s.1∈N) (hD:∀ x∈N,S x=false) (hA:AllIn l T S) (hB:BestOk l T best):match best with
 | none=>ringL l=none
 | some b=>ringL l=some (ringPath l b.1 b.2 b.1):=by
 have hit:∀ n f,Cyc l n f→∃ i,i < n∧T (f i)=true:=fun n f hc=>by
  apply Classical.byContradiction
  intro hno
  have:=hA n f hc (fun i hi=>by
   cases h:T (f i) with
   | false=>rfl
   | true=>exact absurd ⟨i,hi,h⟩ hno) 0 (by have:=hc.1;omega)
  obtain ⟨s,s1,s2,s3⟩:=hc.2.2 0 (by have:=hc.1;omega)
  rw [hD (f 0) (by rw [← s2];exact hN s s1)] at this
  cases this
 cases best with
 | none =>
   simp only
   cases hr:ringL l with
   | none=>rfl
   | some r =>
     exfalso
     obtain ⟨h1,h2,_⟩:=ring_some l r hr
     obtain ⟨a,h3,h4⟩:=closed_walk h1 h2
     obtain ⟨f,_,hc⟩:=cyc_of_walk h3 h4
     obtain ⟨i,hi,hT⟩:=hit _ f hc
     rw [hB _ f hc i hi] at hT
     cases hT
 | some b =>
   simp only
   obtain ⟨b1,b2,b3,b4⟩:=hB
   have hmin:∀ n x,1≤n→Walk l n x x→b.2≤n:=fun n x h1 hw=>by
    obtain ⟨f,_,hc⟩:=cyc_of_walk h1 hw
    exact b1 n f hc (hit n f hc)
   obtain ⟨m',y,g1,g2,g3,g4⟩:=ring_short l b.2 b.1 b2 b3
   have hle:=hmin m' y g1 g4
   have hat:ringAt l b.2=some b.1:=by
    have hst:b.1∈startsL l:=(starts_mem l b.1).2 (by rw [show b.2=b.2 - 1+1 by omega] at b3;exact b3.start)
    cases hr:ringAt l b.2 with
    | none =>
      unfold ringAt at hr
      rw [List.find?_eq_none] at hr
      exact absurd ((way_iff l b.1 b.2 b.1).2 b3) (hr b.1 hst)
    | some r =>
      obtain ⟨r1,r2,r3⟩:=ring_at l b.2 r hr
      have h1:=r3 b.1 hst b3
      have h2:¬ r < b.1:=fun h=>b4 r h r2
      rw [show r=b.1 by omega]
   have:=ringL_some l (b.2 - 1) b.1 (by omega) (fun j hj1 hj2=>ringAt_none l j (fun q hq=>by
    cases hw:wayB l (startsL l)[q] j (startsL l)[q] with
    | false=>rfl
    | true =>
      have:=hmin j _ hj1 ((way_iff l _ j _).1 hw)
      omega)) (by rw [show b.2 - 1+1=b.2 by omega];exact hat)
   rw [show b.2 - 1+1=b.2 by omega] at this
   exact this
theorem all_start (l:List Stp) (S:Int→Bool) (h:∀ s∈l,S s.1=true):AllIn l (fun _=>false) S:=by
 intro n f hc _ i hi
 obtain ⟨s,a,b,_⟩:=hc.2.2 i hi
 rw [← b]
 exact h s a
theorem best_start (l:List Stp):BestOk l (fun _=>false) none:=fun n f hc i hi=>rfl
def aw (Q:List (Int × Nat)) (x:Int):Option Nat:=(Q.find? fun p=>decide (p.1=x)).map (·.2)
theorem aw_some {Q:List (Int × Nat)} (hn:(Q.map (·.1)).Nodup) (x:Int) (d:Nat):aw Q x=some d↔(x,d)∈Q:=by
 unfold aw
 constructor
 ·intro h
  cases hf:Q.find? fun p=>decide (p.1=x) with
  | none=>rw [hf] at h;cases h
  | some p =>
    rw [hf] at h
    have h1:=List.find?_some hf
    have h2:=List.mem_of_find?_eq_some hf
    simp only [decide_eq_true_eq] at h1
    simp only [Option.map_some,Option.some.injEq] at h
    rw [← h1,← h]
    exact h2
 ·intro h
  cases hf:Q.find? fun p=>decide (p.1=x) with
  | none =>
    have:=List.find?_eq_none.1 hf (x,d) h
    simp at this
  | some p =>
    have h1:=List.find?_some hf
    have h2:=List.mem_of_find?_eq_some hf
    simp only [decide_eq_true_eq] at h1
    have h3:p=(x,d):=by
     obtain ⟨i,hi,e1⟩:=List.getElem_of_mem h2
     obtain ⟨j,hj,e2⟩:=List.getElem_of_mem h
     have hpw:=List.pairwise_iff_getElem.1 (List.nodup_iff_pairwise_ne.1 hn)
     have:i=j:=by
      rcases Nat.lt_trichotomy i j with h' | h' | h'
      ·have h4:=hpw i j (by simpa using hi) (by simpa using hj) h'
       rw [List.getElem_map,List.getElem_map,e1,e2] at h4
       exact absurd h1 h4
      ·exact h'
      ·have h4:=hpw j i (by simpa using hj) (by simpa using hi) h'
       rw [List.getElem_map,List.getElem_map,e1,e2] at h4
       exact absurd h1.symm h4
     subst this
     rw [← e1,e2]
    rw [h3];rfl
theorem aw_none (Q:List (Int × Nat)) (x:Int):aw Q x=none↔∀ d,(x,d) ∉ Q:=by
 unfold aw
 rw [Option.map_eq_none_iff,List.find?_eq_none]
 constructor
 ·intro h d hd
  have:=h (x,d) hd
  simp at this
 ·intro h p hp
  simp only [decide_eq_true_eq]
  intro e
  exact h p.2 (by rw [← e];exact hp)
theorem aw_push (Q:List (Int × Nat)) (x:Int) (d:Nat) (h:aw Q x=none):aw (Q++[(x,d)])=fun u=>if u=x then some d else aw Q u:=by
 funext u
 unfold aw at h ⊢
 rw [List.find?_append]
 by_cases e:u=x
 ·subst e
  rw [if_pos rfl]
  rw [Option.map_eq_none_iff] at h
  rw [h]
  simp
 ·rw [if_neg e]
  have e':¬ x=u:=fun h=>e h.symm
  simp [e']
structure Bfs (l:List Stp) (S:Int→Bool) (start:Int) (Q:List (Int × Nat)) (i:Nat):Prop where
 q0:Q[0]?=some (start,0)
 nd:(Q.map (·.1)).Nodup
 srt:Q.Pairwise fun a b=>a.2≤b.2
 wk:∀ p∈Q,S p.1=true∧Walk (lS l S) p.2 p.1 start
 cl:∀ j (hj:j < Q.length),j < i→∀ s∈lS l S,s.2.1=Q[j].1→s.1≠start∧∃ d,(s.1,d)∈Q∧d≤Q[j].2+1
 up:∀ (hi:i < Q.length),∀ p∈Q,p.2≤Q[i].2+1
theorem bfs_start (l:List Stp) (S:Int→Bool) (start:Int) (h:S start=true):Bfs l S start [(start,0)] 0:=by
 refine ⟨rfl,by simp,List.pairwise_singleton _ _,fun p hp=>?_,fun j hj h0=>by omega,fun hi p hp=>?_⟩
 ·rw [List.mem_singleton] at hp;subst hp;exact ⟨h,Walk.nil start⟩
 ·rw [List.mem_singleton] at hp;subst hp;simp
theorem Bfs.sorted_at {l:List Stp} {S:Int→Bool} {start:Int} {Q:List (Int × Nat)} {i:Nat} (h:Bfs l S start Q i) (a b:Nat) (ha:a < Q.length) (hb:b < Q.length) (hab:a≤b):Q[a].2≤Q[b].2:=by
 rcases Nat.lt_or_ge a b with h1 | h1
 ·exact (List.pairwise_iff_getElem.1 h.srt) a b ha hb h1
 ·obtain rfl:a=b:=by omega
  exact Nat.le_refl _
theorem Bfs.known {l:List Stp} {S:Int→Bool} {start:Int} {Q:List (Int × Nat)} {i:Nat} (h:Bfs l S start Q i) (M:Nat) (hM:∀ (hi:i < Q.length),M≤Q[i].2):∀ (n:Nat) (x:Int),n≤M→Walk (lS l S) n x start→∃ d,(x,d)∈Q∧d≤n:=by
 intro n
 induction n with
 | zero =>
   intro x _ hw
   have e:x=start:=hw
   subst e
   exact ⟨0,List.mem_of_getElem? h.q0,Nat.le_refl _⟩
 | succ n ih =>
   intro x hn hw
   obtain ⟨s,hs,hw',rfl⟩:=hw
   obtain ⟨d,hd,hdn⟩:=ih s.2.1 (by omega) hw'
   obtain ⟨j,hj,e⟩:=List.getElem_of_mem hd
   have hji:j < i:=by
    rcases Nat.lt_or_ge j i with h1 | h1
    ·exact h1
    ·exfalso
     have hi:i < Q.length:=by omega
     have h2:=h.sorted_at i j hi hj h1
     have h3:=hM hi
     rw [e] at h2
     simp only at h2
     omega
   obtain ⟨_,d',h1,h2⟩:=h.cl j hj hji s hs (by rw [e])
   rw [e] at h2
   exact ⟨d',h1,by simp only at h2;omega⟩
theorem Bfs.none {l:List Stp} {S:Int→Bool} {start:Int} {Q:List (Int × Nat)} {i:Nat} (h:Bfs l S start Q i) (M:Nat) (hM:∀ (hi:i < Q.length),M≤Q[i].2) (n:Nat) (h1:1≤n) (hn:n≤M):¬ Walk (lS l S) n start start:=by
 intro hw
 obtain ⟨m,rfl⟩:∃ m,n=m+1:=⟨n - 1,by omega⟩
 obtain ⟨s,hs,hw',e⟩:=hw
 obtain ⟨d,hd,hdn⟩:=h.known M hM m s.2.1 (by omega) hw'
 obtain ⟨j,hj,e2⟩:=List.getElem_of_mem hd
 have hji:j < i:=by
  rcases Nat.lt_or_ge j i with h1 | h1
  ·exact h1
  ·exfalso
   have hi:i < Q.length:=by omega
   have h2:=h.sorted_at i j hi hj h1
   have h3:=hM hi
   rw [e2] at h2
   simp only at h2
   omega
 exact (h.cl j hj hji s hs (by rw [e2])).1 e.symm
structure BfsP (l:List Stp) (S S0:Int→Bool) (start:Int) (Q:List (Int × Nat)) (i e:Nat):Prop where
 b:Bfs l S start Q i
 hi:i < Q.length
 pt:∀ e' (h:e' < (toL l S0 Q[i].1).length),e' < e→(stA l (toL l S0 Q[i].1)[e']).1≠start∧(S (stA l (toL l S0 Q[i].1)[e']).1=true→∃ d,((stA l (toL l S0 Q[i].1)[e']).1,d)∈Q∧d≤Q[i].2+1)
theorem bfsP_start {l:List Stp} {S S0:Int→Bool} {start:Int} {Q:List (Int × Nat)} {i:Nat} (h:Bfs l S start Q i) (hi:i < Q.length):BfsP l S S0 start Q i 0:=⟨h,hi,fun e' _ h0=>by omega⟩
theorem BfsP.skip {l:List Stp} {S S0:Int→Bool} {start:Int} {Q:List (Int × Nat)} {i e:Nat} (h:BfsP l S S0 start Q i e) (he:e < (toL l S0 (Q[i]'h.hi).1).length) (hne:(stA l (toL l S0 (Q[i]'h.hi).1)[e]).1≠start) (hk:aw Q (stA l (toL l S0 (Q[i]'h.hi).1)[e]).1≠Option.none∨S (stA l (toL l S0 (Q[i]'h.hi).1)[e]).1=false):BfsP l S S0 start Q i (e+1):=by
 refine ⟨h.b,h.hi,fun e' h1 h2=>?_⟩
 rcases Nat.lt_succ_iff_lt_or_eq.1 h2 with h3 | rfl
 ·exact h.pt e' h1 h3
 ·refine ⟨hne,fun hS=>?_⟩
  rcases hk with hk | hk
  ·obtain ⟨d,hd⟩:=Option.ne_none_iff_exists'.1 hk
   have hm:=(aw_some h.b.nd _ d).1 hd
   exact ⟨d,hm,h.b.up h.hi _ hm⟩
  ·rw [hk] at hS;cases hS
theorem BfsP.push {l:List Stp} {S S0:Int→Bool} {start:Int} {Q:List (Int × Nat)} {i e:Nat} (h:BfsP l S S0 start Q i e) (he:e < (toL l S0 (Q[i]'h.hi).1).length) (hne:(stA l (toL l S0 (Q[i]'h.hi).1)[e]).1≠start) (hk:aw Q (stA l (toL l S0 (Q[i]'h.hi).1)[e]).1=Option.none) (hS:S (stA l (toL l S0 (Q[i]'h.hi).1)[e]).1=true) :
 BfsP l S S0 start (Q++[((stA l (toL l S0 (Q[i]'h.hi).1)[e]).1,(Q[i]'h.hi).2+1)]) i (e+1):=by
 have hi:=h.hi
 obtain ⟨x,hx⟩:∃ x,(stA l (toL l S0 (Q[i]'hi).1)[e]).1=x:=⟨_,rfl⟩
 have hmem:=(to_mem l S0 (Q[i]'hi).1 _).1 (List.getElem_mem he)
 have hstp:(stA l (toL l S0 (Q[i]'hi).1)[e])∈lS l S:=(lS_mem l S _).2 ⟨stA_mem l _ hmem.1,hS,by rw [hmem.2.1];exact (h.b.wk _ (List.getElem_mem hi)).1⟩
 have hwalk:Walk (lS l S) ((Q[i]'hi).2+1) x start:=by
  rw [← hx]
  exact Walk.cons _ _ _ hstp (by rw [hmem.2.1];exact (h.b.wk _ (List.getElem_mem hi)).2)
 have hup:=h.b.up hi
 rw [hx] at hne hk hS ⊢
 have hnot:=(aw_none Q x).1 hk
 have hget:∀ j (hj:j < Q.length),(Q++[(x,(Q[i]'hi).2+1)])[j]'(by simp;omega)=Q[j]:=fun j hj=>List.getElem_append_left hj
 refine ⟨⟨?_,?_,?_,fun p hp=>?_,fun j hj hji s hs hq=>?_,fun _ p hp=>?_⟩,by simp;omega,fun e' h1 h2=>?_⟩
 ·rw [List.getElem?_append_left (by omega)];exact h.b.q0
 ·rw [List.map_append]
  rw [List.nodup_append]
  refine ⟨h.b.nd,by simp,fun a ha b hb e=>?_⟩
  simp at hb
  subst hb e
  obtain ⟨p,hp,e⟩:=List.mem_map.1 ha
  exact hnot p.2 (by rw [← e];exact hp)
 ·rw [List.pairwise_append]
  refine ⟨h.b.srt,List.pairwise_singleton _ _,fun a ha b hb=>?_⟩
  rw [List.mem_singleton] at hb
  subst hb
  exact hup a ha
 ·rcases List.mem_append.1 hp with hp | hp
  ·exact h.b.wk p hp
  ·rw [List.mem_singleton] at hp;subst hp;exact ⟨hS,hwalk⟩
 ·rw [hget j (by omega)] at hq ⊢
  obtain ⟨a,d,b,c⟩:=h.b.cl j (by omega) hji s hs hq
  exact ⟨a,d,List.mem_append.2 (.inl b),c⟩
 ·rw [hget i hi]
  rcases List.mem_append.1 hp with hp | hp
  ·exact hup p hp
  ·rw [List.mem_singleton] at hp;subst hp;exact Nat.le_refl _
 ·have e1:=hget i hi
  have key:∀ (y:Int × Nat) (hy:y=Q[i]'hi) (h1':e' < (toL l S0 y.1).length),(stA l (toL l S0 y.1)[e']).1≠start∧(S (stA l (toL l S0 y.1)[e']).1=true→∃ d,((stA l (toL l S0 y.1)[e']).1,d)∈Q++[(x,(Q[i]'hi).2+1)]∧d≤y.2+1):=by
   intro y hy h1'
   subst hy
   rcases Nat.lt_succ_iff_lt_or_eq.1 h2 with h3 | h3
   ·obtain ⟨a,b⟩:=h.pt e' h1' h3
    refine ⟨a,fun hh=>?_⟩
    obtain ⟨d,c1,c2⟩:=b hh
    exact ⟨d,List.mem_append.2 (.inl c1),c2⟩
   ·subst h3
    rw [hx]
    exact ⟨hne,fun _=>⟨_,List.mem_append.2 (.inr (List.mem_singleton.2 rfl)),Nat.le_refl _⟩⟩
  exact key _ e1 h1
theorem BfsP.next {l:List Stp} {S S0:Int→Bool} {start:Int} {Q:List (Int × Nat)} {i:Nat} (hi:i < Q.length) (h:BfsP l S S0 start Q i (toL l S0 Q[i].1).length) (hs:∀ y,S y=true→S0 y=true):Bfs l S start Q (i+1):=by
 refine ⟨h.b.q0,h.b.nd,h.b.srt,h.b.wk,fun j hj hji s hsm hq=>?_,fun hi2 p hp=>?_⟩
 ·rcases Nat.lt_succ_iff_lt_or_eq.1 hji with h1 | h1
  ·exact h.b.cl j hj h1 s hsm hq
  ·subst h1
   obtain ⟨s1,s2,s3⟩:=(lS_mem l S s).1 hsm
   obtain ⟨q,hq',rfl⟩:=List.getElem_of_mem s1
   have hm:q∈toL l S0 (Q[j]'hj).1:=(to_mem l S0 _ q).2 ⟨hq',by rw [stA_at l q hq'];exact hq,by rw [stA_at l q hq'];exact hs _ s2,by rw [← hq];exact hs _ s3⟩
   obtain ⟨e',he',e⟩:=List.getElem_of_mem hm
   have:=h.pt e' he' he'
   rw [e,stA_at l q hq'] at this
   exact ⟨this.1,this.2 s2⟩
 ·have h1:=h.b.up hi p hp
  have h2:=h.b.sorted_at i (i+1) hi hi2 (by omega)
  omega
theorem bfs_found {l:List Stp} {S S0:Int→Bool} {start:Int} {Q:List (Int × Nat)} {i e:Nat} {most:Nat} (h:BfsP l S S0 start Q i e) (he:e < (toL l S0 (Q[i]'h.hi).1).length) (hq:(stA l (toL l S0 (Q[i]'h.hi).1)[e]).1=start) (hst:S start=true) (hm:most=0∨(Q[i]'h.hi).2+1 < most):ShOk l S start most ((Q[i]'h.hi).2+1) (aw Q):=by
 have hi:=h.hi
 have hmem:=(to_mem l S0 (Q[i]'hi).1 _).1 (List.getElem_mem he)
 have hwi:=h.b.wk _ (List.getElem_mem hi)
 have hstp:(stA l (toL l S0 (Q[i]'hi).1)[e])∈lS l S:=(lS_mem l S _).2 ⟨stA_mem l _ hmem.1,by rw [hq];exact hst,by rw [hmem.2.1];exact hwi.1⟩
 have hwalk:Walk (lS l S) ((Q[i]'hi).2+1) start start:=by
  have:=Walk.cons _ _ _ hstp (by rw [hmem.2.1];exact hwi.2)
  rw [hq] at this
  exact this
 have hno:=h.b.none (Q[i]'hi).2 (fun _=>Nat.le_refl _)
 have hkn:=h.b.known (Q[i]'hi).2 (fun _=>Nat.le_refl _)
 refine ⟨fun h0=>by omega,fun _=>⟨hwalk,hm,fun n h1 hw=>?_,fun y d hd=>?_⟩⟩
 ·rcases Nat.lt_or_ge n ((Q[i]'hi).2+1) with h2 | h2
  ·exact absurd hw (hno n h1 (by omega))
  ·exact h2
 ·rw [aw_some h.b.nd]
  constructor
  ·intro hyd
   refine ⟨(h.b.wk _ hyd).2,fun d' hd' hw=>?_⟩
   obtain ⟨d2,c1,c2⟩:=hkn d' y (by omega) hw
   have e1:=(aw_some h.b.nd y d).2 hyd
   have e2:=(aw_some h.b.nd y d2).2 c1
   rw [e1] at e2
   have:=Option.some.inj e2
   omega
  ·rintro ⟨hw,hmn⟩
   obtain ⟨d2,c1,c2⟩:=hkn d y (by omega) hw
   rcases Nat.lt_or_ge d2 d with h3 | h3
   ·exact absurd (h.b.wk _ c1).2 (hmn d2 h3)
   ·have:d2=d:=by omega
    rw [← this];exact c1
theorem bfs_most {l:List Stp} {S:Int→Bool} {start:Int} {Q:List (Int × Nat)} {i most:Nat} (h:Bfs l S start Q i) (hi:i < Q.length) (hm:Q[i].2+1=most):ShOk l S start most 0 (aw Q):=by
 have hno:=h.none Q[i].2 (fun _=>Nat.le_refl _)
 refine ⟨fun _ n h1 hn=>?_,fun h0=>by omega⟩
 exact hno n h1 (by omega)
theorem bfs_all {l:List Stp} {S:Int→Bool} {start:Int} {Q:List (Int × Nat)} {i:Nat} (h:Bfs l S start Q i) (hi:Q.length≤i) (most:Nat):ShOk l S start most 0 (aw Q) :=
 ⟨fun _ n h1 hn=>h.none n (fun h'=>by omega) n h1 (Nat.le_refl _),fun h0=>by omega⟩
open Go.RowKit
attribute [local go_sem] ba_size
theorem pwithin_any (t:List UInt8) (lo hi:Int) (w:World) :
 Calls Tryz.prog 91 #[.string ⟨t.toArray⟩,.int .i64 lo,.int .i64 hi] w fun e w'=>e=.returned (.bool (decide (lo≤(t.length:Int)∧(t.length:Int)≤hi)))∧Below w.heap.size w w':=by
 by_cases c1:lo≤(t.length:Int)
 ·have d1:¬ (t.length:Int) < lo:=by omega
  by_cases c2:(t.length:Int)≤hi
  ·rw [decide_eq_true (show _∧_ from ⟨c1,c2⟩)]
   go_enter Tryz.func91,Tryz.ntmps91
   go_wp2_with fail
   go_ret
   exact ⟨rfl,Below.refl _ _⟩
  ·rw [decide_eq_false (show ¬ (_∧_) from fun h=>c2 h.2)]
   go_enter Tryz.func91,Tryz.ntmps91
   go_wp2_with fail
   go_ret
   exact ⟨rfl,Below.refl _ _⟩
 ·have d1:(t.length:Int) < lo:=by omega
  rw [decide_eq_false (show ¬ (_∧_) from fun h=>c1 h.1)]
  go_enter Tryz.func91,Tryz.ntmps91
  go_wp2_with fail
  go_ret
  exact ⟨rfl,Below.refl _ _⟩
theorem ptexts2 (w:World):Calls Tryz.prog 90 #[.int .i64 2] w fun e w'=>e=.returned (.tuple #[.bool true,.int .i64 0])∧Below w.heap.size w w':=by
 go_enter Tryz.func90,Tryz.ntmps90
 go_wp2_with fail
 go_ret2
 exact ⟨rfl,Below.refl _ _⟩
theorem ptexts3 (w:World):Calls Tryz.prog 90 #[.int .i64 3] w fun e w'=>e=.returned (.tuple #[.bool true,.int .i64 1])∧Below w.heap.size w w':=by
 go_enter Tryz.func90,Tryz.ntmps90
 go_wp2_with fail
 go_ret2
 exact ⟨rfl,Below.refl _ _⟩
theorem ptextsN (k:Int) (h:¬ (k=2∨k=3)) (w:World):Calls Tryz.prog 90 #[.int .i64 k] w fun e w'=>e=.returned (.tuple #[.bool false,.int .i64 0])∧Below w.heap.size w w':=by
 have q1:(k==2)=false:=by rw [beq_eq_false_iff_ne];exact fun h'=>h (Or.inl h')
 have q2:(k==3)=false:=by rw [beq_eq_false_iff_ne];exact fun h'=>h (Or.inr h')
 clear h
 go_enter Tryz.func90,Tryz.ntmps90
 go_wp2_with fail
 go_ret2
 exact ⟨rfl,Below.refl _ _⟩
theorem ptexts_key (k:Int) (h:k=2∨k=3) (w:World):Calls Tryz.prog 90 #[.int .i64 k] w fun e w'=>e=.returned (.tuple #[.bool true,.int .i64 (if k=2 then 0 else 1)])∧Below w.heap.size w w':=by
 rcases h with rfl | rfl
 ·exact ptexts2 w
 ·exact ptexts3 w
set_option maxHeartbeats 1000000 in
theorem pmay_any (k t:Int) (a b:List UInt8) (w:World) :
 Calls Tryz.prog 63 #[.agg #[.int .i64 k,.int .i64 t,.string ⟨a.toArray⟩,.string ⟨b.toArray⟩]] w fun e w'=>e=.returned (.bool (decide (mayE (k,t,a,b))))∧Below w.heap.size w w':=by
 have al:∀ o,Below w.heap.size w (w.alloc o):=fun o=>(Below.refl _ w).alloc (Nat.le_refl _) o
 by_cases c0:k < 1
 ·rw [decide_eq_false (show ¬ mayE _ from fun h=>by have h:=mayE_range h;omega)]
  go_enter Tryz.func63,Tryz.ntmps63
  go_wp2_with fail
  go_ret
  exact ⟨rfl,al _⟩
 ·have c0':¬ k < 1:=c0
  by_cases c1:5 < k
  ·rw [decide_eq_false (show ¬ mayE _ from fun h=>by have h:=mayE_range h;omega)]
   go_enter Tryz.func63,Tryz.ntmps63
   go_wp2_with fail
   go_ret
   exact ⟨rfl,al _⟩
  ·have c1':¬ 5 < k:=c1
   by_cases c2:t < 1
   ·rw [decide_eq_false (show ¬ mayE _ from fun h=>by have h:=mayE_range h;omega)]
    go_enter Tryz.func63,Tryz.ntmps63
    go_wp2_with fail
    go_ret
    exact ⟨rfl,al _⟩
   ·have c2':¬ t < 1:=c2
    by_cases c3:32 < t
    ·rw [decide_eq_false (show ¬ mayE _ from fun h=>by have h:=mayE_range h;omega)]
     go_enter Tryz.func63,Tryz.ntmps63
     go_wp2_with fail
     go_ret
     exact ⟨rfl,al _⟩
    ·have c3':¬ 32 < t:=c3
     by_cases u1:k=2∨k=3
     ·have T:=fun W=>ptexts_key k u1 W
      obtain ⟨m,hm⟩:∃ m:Int,(if k=2 then 0 else 1:Int)=m:=⟨_,rfl⟩
      rw [hm] at T
      have HM:Hid (decide (mayE (k,t,a,b))=decide (((1:Int)≤(a.length:Int)∧(a.length:Int)≤32)∧(m≤(b.length:Int)∧(b.length:Int)≤32))):=by
       show _=_
       rw [decide_eq_decide,mayE_key u1]
       rcases u1 with rfl | rfl
       ·rw [if_pos rfl] at hm;subst hm;omega
       ·rw [if_neg (by omega)] at hm;subst hm;omega
      rw [HM.out]
      clear u1 hm HM
      have W1:=fun W=>pwithin_any a 1 32 W
      have W2:=fun W=>pwithin_any b m 32 W
      by_cases d1:(1:Int)≤(a.length:Int)∧(a.length:Int)≤32
      ·rw [decide_eq_true d1] at W1
       obtain ⟨v,hv⟩:∃ v,decide (m≤(b.length:Int)∧(b.length:Int)≤32)=v:=⟨_,rfl⟩
       have HV:Hid (decide (((1:Int)≤(a.length:Int)∧(a.length:Int)≤32)∧(m≤(b.length:Int)∧(b.length:Int)≤32))=v):=by
        show _=_
        rw [← hv,decide_eq_decide]
        exact ⟨fun h=>h.2,fun h=>⟨d1,h⟩⟩
       rw [HV.out]
       rw [hv] at W2
       clear hv HV d1
       have HW1:Hid (∀ W,Calls Tryz.prog 91 #[.string ⟨a.toArray⟩,.int .i64 1,.int .i64 32] W fun e w'=>e=.returned (.bool true)∧Below W.heap.size W w'):=W1
       have HW2:Hid (∀ W,Calls Tryz.prog 91 #[.string ⟨b.toArray⟩,.int .i64 m,.int .i64 32] W fun e w'=>e=.returned (.bool v)∧Below W.heap.size W w'):=W2
       clear W1 W2
       go_enter Tryz.func63,Tryz.ntmps63
       go_wp2_with fail
       refine (T _).mono ?_
       rintro e w1 ⟨rfl,b1⟩
       have x2:=box_cell b1 2 _ rfl
       go_wp2_with fail
       refine (HW1.out _).mono ?_
       rintro e w2 ⟨rfl,b2⟩
       have b2':=bel_trans b1 b2
       have x3:=box_cell b2' 3 _ rfl
       go_wp2_with fail
       refine (HW2.out _).mono ?_
       rintro e w3 ⟨rfl,b3⟩
       go_wp2_with fail
       go_ret
       exact ⟨rfl,bel_trans (al _) (bel_trans b2' b3)⟩
      ·rw [decide_eq_false d1] at W1
       rw [decide_eq_false (show ¬ (_∧_) from fun h=>d1 h.1)]
       have HW1:Hid (∀ W,Calls Tryz.prog 91 #[.string ⟨a.toArray⟩,.int .i64 1,.int .i64 32] W fun e w'=>e=.returned (.bool false)∧Below W.heap.size W w'):=W1
       clear d1 W1 W2
       go_enter Tryz.func63,Tryz.ntmps63
       go_wp2_with fail
       refine (T _).mono ?_
       rintro e w1 ⟨rfl,b1⟩
       have x2:=box_cell b1 2 _ rfl
       go_wp2_with fail
       refine (HW1.out _).mono ?_
       rintro e w2 ⟨rfl,b2⟩
       have b2':=bel_trans b1 b2
       go_wp2_with fail
       go_ret
       exact ⟨rfl,bel_trans (al _) b2'⟩
     ·have T:=fun W=>ptextsN k u1 W
      have HM:Hid (decide (mayE (k,t,a,b))=decide (a=[]∧b=[])):=by
       show _=_
       rw [decide_eq_decide,mayE_unkey u1]
       exact ⟨fun h=>h.2,fun h=>⟨by omega,h⟩⟩
      rw [HM.out]
      clear u1 HM
      cases a with
      | nil =>
        cases b with
        | nil =>
          go_enter Tryz.func63,Tryz.ntmps63
          go_wp2_with fail
          refine (T _).mono ?_
          rintro e w1 ⟨rfl,b1⟩
          have x2:=box_cell b1 2 _ rfl
          have x3:=box_cell b1 3 _ rfl
          go_wp2_with fail
          go_ret
          exact ⟨rfl,bel_trans (al _) b1⟩
        | cons y r =>
          rw [decide_eq_false (show ¬ (_∧_) from fun h=>by cases h.2)]
          obtain ⟨b,hb⟩:∃ b,y::r=b:=⟨_,rfl⟩
          have q:=ne_empty' b (by rw [← hb];simp)
          rw [hb]
          clear hb
          go_enter Tryz.func63,Tryz.ntmps63
          go_wp2_with fail
          refine (T _).mono ?_
          rintro e w1 ⟨rfl,b1⟩
          have x2:=box_cell b1 2 _ rfl
          have x3:=box_cell b1 3 _ rfl
          go_wp2_with fail
          go_ret
          exact ⟨rfl,bel_trans (al _) b1⟩
      | cons x r =>
        rw [decide_eq_false (show ¬ (_∧_) from fun h=>by cases h.1)]
        obtain ⟨a,ha⟩:∃ a,x::r=a:=⟨_,rfl⟩
        have q:=ne_empty' a (by rw [← ha];simp)
        rw [ha]
        clear ha
        go_enter Tryz.func63,Tryz.ntmps63
        go_wp2_with fail
        refine (T _).mono ?_
        rintro e w1 ⟨rfl,b1⟩
        have x2:=box_cell b1 2 _ rfl
        go_wp2_with fail
        go_ret
        exact ⟨rfl,bel_trans (al _) b1⟩
end Go.Proofs.YtiihegldhnlleaaGreat
