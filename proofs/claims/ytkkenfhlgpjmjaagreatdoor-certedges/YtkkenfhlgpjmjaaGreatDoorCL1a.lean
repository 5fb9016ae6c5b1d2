/-
  What is wanted of package ring, as one word (rows of at most so many numbers, so many steps). A web as ring.weave makes it, in memory; what is read of it while
-/
import Derived.Test.YtkkenfhlgpjmjaaGreatDoorCR11Order
import Derived.Test.YtkkenfhlgpjmjaaGreatDoorCP11Dn
import Derived.Test.YtkkenfhlgpjmjaaGreatDoorCP8First
import Derived.Test.YtkkenfhlgpjmjaaGreatDoorCP8Lives
import Derived.Test.YtkkenfhlgpjmjaaGreatDoorCP2Round
import Derived.Lib.SliceRun
import Derived.Sort.OwnSortedInts
import Derived.Sort.OwnSorted
namespace Go.Proofs.YtkkenfhlgpjmjaaGreatDoor
set_option maxRecDepth 100000
open Go.RowKit Go.Maps
set_option linter.unusedVariables false
section
variable {Wc V:World} {m1:Nat}
end
theorem zeroS (w:World):(zeroValue 23).run Tryz.prog w=.ok (.slice none 0 0) w:=by kernel_rfl
end Go.Proofs.YtkkenfhlgpjmjaaGreatDoor
namespace Go.Proofs.YtkkenfhlgpjmjaaGreatDoor
set_option maxRecDepth 100000
open Go.RowKit Go.Maps
set_option linter.unusedVariables false
theorem results_row11 {P:Program} {fn:Func} {p:Tmp} {ty:TypeId} (h:fn.results=#[.cell p ty]) (tmps:Array Value) (w:World) (g:Nat) (t:TypeId) (cs:Array Value) (fr:Nat × Nat) (d:TypeDesc)
 (hp:tmps.getD p undef=.pointer (some ⟨g,0,none⟩)) (hg:w.heap[g]?=some (.cells cs t fr))
 (hu:P.underlying ty=some d) (hd:(match d with | .struct _ | .array _ _=>true | _=>false)=true) (hi:(P.info? ty).map (·.size)=some cs.size) :
 (results fn tmps).run P w=.ok (.agg cs) w:=by
 have hp':tmps[p]?.getD undef=.pointer (some ⟨g,0,none⟩):=by simpa using hp
 simp [results,h,hp',asAddr,run_loadVar_row w g t ty cs fr d hg hu hd hi]
section
variable {W W':World} {B m2 m3 n:Nat} {f2 f3:Int→Option Value} {g2 g3:Int→List Nat}
theorem own_off {v:Value} {k m:Nat} {xs:List Value} (h:W.ownsRow B 3 1 v k xs) (hm:m < B):v.ownBlock=none∨v.ownBlock≠some m:=by
 cases hv:v.ownBlock with
 | none=>exact .inl rfl
 | some g=>exact .inr (fun e=>by have:=(h.lt g hv).1;have e2:=Option.some.inj e;omega)
end
end Go.Proofs.YtkkenfhlgpjmjaaGreatDoor
namespace Go.Proofs.YtkkenfhlgpjmjaaGreatDoor
set_option maxRecDepth 100000
open Go.RowKit Go.Maps
set_option linter.unusedVariables false
attribute [local go_sem] ba_size
theorem ends14_no (w:World):Calls Tryz.prog 210 #[.slice none 0 0] w fun e w'=>e=.returned (.slice none 0 0)∧w'=w:=by
 go_enter Tryz.func210,Tryz.ntmps210
 go_wp2_with fail
 go_loopw [3,8] (fun r i wr=>r=.slice none 0 0∧i=.int .i64 0∧wr=w) (fun _ _ _=>0)
 case atStart=>exact ⟨rfl,rfl,rfl⟩
 case round =>
  obtain ⟨rfl,rfl,rfl⟩:=hrel
  go_wp2_with fail
  go_ret
  exact ⟨rfl,rfl⟩
theorem clone14_no (w:World):Calls Tryz.prog 252 #[.slice none 0 0] w fun e w'=>e=.returned (.slice none 0 0)∧w'=w:=by
 have qT:∀ (w:World) (a:Option Addr) (n c n' c':Nat),(binOp .eql 23 (.slice a n c) (.slice none n' c')).run Tryz.prog w=.ok (.bool a.isNone) w:=fun w a n c n' c'=>Lib.run_eql_slice_nil w _ _ a n c n' c' Tryz.underlying23
 go_enter Tryz.func252,Tryz.ntmps252
 go_wp2_with fail
 go_ret
 exact ⟨rfl,rfl⟩
theorem size_web14:(Tryz.prog.info? 263).map (·.size)=some 5:=by kernel_rfl
structure W14 (w W:World) (vl vn:Value) (n:Nat) (f:Int→Option Value):Prop where
 b:Below w.heap.size w W
 r:SBox W w.heap.size tW #[.slice none 0 0,.slice none 0 0,.map none,.map none,.map none]
 m1:VMap W (w.heap.size+1) n f
 m2:VMap W (w.heap.size+1+1) 0 (fun _=>none)
 m3:VMap W (w.heap.size+1+1+1) 0 (fun _=>none)
 x:SBox W (w.heap.size+1+1+1+1) tW (webC vl vn (w.heap.size+1) (w.heap.size+1+1) (w.heap.size+1+1+1))
theorem W14.new (w:World) (vl:Value):W14 w (((((w.alloc (.cells #[.slice none 0 0,.slice none 0 0,.map none,.map none,.map none] tW)).alloc (.map #[] 0)).alloc (.map #[] 0)).alloc (.map #[] 0)).alloc (.cells (webC vl (.slice none 0 0) (w.heap.size+1) (w.heap.size+1+1) (w.heap.size+1+1+1)) tW)) vl (.slice none 0 0) 0 (fun _=>none):=by
 have r:=((((SBox.new w tW #[.slice none 0 0,.slice none 0 0,.map none,.map none,.map none]).alloc (.map #[] 0)).alloc (.map #[] 0)).alloc (.map #[] 0)).alloc (.cells (webC vl (.slice none 0 0) (w.heap.size+1) (w.heap.size+1+1) (w.heap.size+1+1+1)) tW)
 have m1:=(((VMap.made (w.alloc (.cells #[.slice none 0 0,.slice none 0 0,.map none,.map none,.map none] tW))).kept (World.grownBy_alloc _ (.map #[] 0) none) (by simp)).kept (World.grownBy_alloc _ (.map #[] 0) none) (by simp)).kept (World.grownBy_alloc _ (.cells (webC vl (.slice none 0 0) (w.heap.size+1) (w.heap.size+1+1) (w.heap.size+1+1+1)) tW) none) (by simp)
 have m2:=((VMap.made ((w.alloc (.cells #[.slice none 0 0,.slice none 0 0,.map none,.map none,.map none] tW)).alloc (.map #[] 0))).kept (World.grownBy_alloc _ (.map #[] 0) none) (by simp)).kept (World.grownBy_alloc _ (.cells (webC vl (.slice none 0 0) (w.heap.size+1) (w.heap.size+1+1) (w.heap.size+1+1+1)) tW) none) (by simp)
 have m3:=(VMap.made (((w.alloc (.cells #[.slice none 0 0,.slice none 0 0,.map none,.map none,.map none] tW)).alloc (.map #[] 0)).alloc (.map #[] 0))).kept (World.grownBy_alloc _ (.cells (webC vl (.slice none 0 0) (w.heap.size+1) (w.heap.size+1+1) (w.heap.size+1+1+1)) tW) none) (by simp)
 have x:=SBox.new ((((w.alloc (.cells #[.slice none 0 0,.slice none 0 0,.map none,.map none,.map none] tW)).alloc (.map #[] 0)).alloc (.map #[] 0)).alloc (.map #[] 0)) tW (webC vl (.slice none 0 0) (w.heap.size+1) (w.heap.size+1+1) (w.heap.size+1+1+1))
 simp only [World.size_alloc] at m1 m2 m3 x
 exact ⟨(((((Below.refl w.heap.size w).alloc (Nat.le_refl _) _).alloc (by simp) _).alloc (by simp;omega) _).alloc (by simp;omega) _).alloc (by simp;omega) _,r,m1,m2,m3,x⟩
theorem W14.turn {w W W':World} {vl vn:Value} {n:Nat} {f:Int→Option Value} (h:W14 w W vl vn n f) {row:Option Nat} (hg:W.grownBy W' row) (hr:∀ k,row=some k→w.heap.size+1+1+1+1 < k):W14 w W' vl vn n f:=by
 have q:∀ k,k≤w.heap.size+1+1+1+1→some k≠row:=fun k hk e=>by have:=hr k e.symm;omega
 exact ⟨h.b.grown hg h.b.size (fun j hj=>by have:=hr j hj;omega),(hg.block _ h.r.lt (q _ (by omega))).trans h.r,h.m1.kept hg (q _ (by omega)),h.m2.kept hg (q _ (by omega)),h.m3.kept hg (q _ (by omega)),(hg.block _ h.x.lt (q _ (by omega))).trans h.x⟩
theorem W14.put {w W:World} {vl vn:Value} {n:Nat} {f:Int→Option Value} (h:W14 w W vl vn n f) (v:Value):W14 w (W.setCell ⟨w.heap.size+1+1+1+1,1,none⟩ v) vl v n f:=by
 have q:∀ k,k≠w.heap.size+1+1+1+1→(W.setCell ⟨w.heap.size+1+1+1+1,1,none⟩ v).heap[k]?=W.heap[k]?:=fun k hk=>Below.heap_setCell _ _ _ k hk
 exact ⟨h.b.setCell (p:=⟨w.heap.size+1+1+1+1,1,none⟩) (by simp;omega) _,(q _ (by omega)).trans h.r,h.m1.same (q _ (by omega)),h.m2.same (q _ (by omega)),h.m3.same (q _ (by omega)),h.x.set 1 v⟩
def Wv14 (w:World) (vn:Value) (n:Nat) (f:Int→Option Value) (e:Ending) (w':World):Prop :=
 e=.returned (webV (.slice none 0 0) vn (w.heap.size+1) (w.heap.size+1+1) (w.heap.size+1+1+1))∧Below w.heap.size w w'∧VMap w' (w.heap.size+1) n f∧VMap w' (w.heap.size+1+1) 0 (fun _=>none)∧VMap w' (w.heap.size+1+1+1) 0 (fun _=>none)
abbrev wE14 (w W:World) (vl vn:Value):World:=((((W.setCell ⟨w.heap.size,0,none⟩ vl).setCell ⟨w.heap.size,1,none⟩ vn).setCell ⟨w.heap.size,2,none⟩ (.map (some (w.heap.size+1)))).setCell ⟨w.heap.size,3,none⟩ (.map (some (w.heap.size+1+1)))).setCell ⟨w.heap.size,4,none⟩ (.map (some (w.heap.size+1+1+1)))
theorem W14.res {w W:World} {vl vn:Value} {n:Nat} {f:Int→Option Value} (h:W14 w W vl vn n f):SBox (wE14 w W vl vn) w.heap.size tW (webC vl vn (w.heap.size+1) (w.heap.size+1+1) (w.heap.size+1+1+1)):=((((h.r.set 0 _).set 1 _).set 2 _).set 3 _).set 4 _
theorem W14.oth {w W:World} {vl vn:Value} (k:Nat) (hk:k≠w.heap.size):(wE14 w W vl vn).heap[k]?=W.heap[k]?:=by
 rw [Below.heap_setCell _ _ _ k hk,Below.heap_setCell _ _ _ k hk,Below.heap_setCell _ _ _ k hk,Below.heap_setCell _ _ _ k hk,Below.heap_setCell _ _ _ k hk]
theorem W14.end {w W:World} {vn:Value} {n:Nat} {f:Int→Option Value} (h:W14 w W (.slice none 0 0) vn n f):Wv14 w vn n f (.returned (webV (.slice none 0 0) vn (w.heap.size+1) (w.heap.size+1+1) (w.heap.size+1+1+1))) (wE14 w W (.slice none 0 0) vn) :=
 ⟨rfl,((((h.b.setCell (p:=⟨w.heap.size,0,none⟩) (Nat.le_refl _) _).setCell (p:=⟨w.heap.size,1,none⟩) (Nat.le_refl _) _).setCell (p:=⟨w.heap.size,2,none⟩) (Nat.le_refl _) _).setCell (p:=⟨w.heap.size,3,none⟩) (Nat.le_refl _) _).setCell (p:=⟨w.heap.size,4,none⟩) (Nat.le_refl _) _,h.m1.same (W14.oth _ (by omega)),h.m2.same (W14.oth _ (by omega)),h.m3.same (W14.oth _ (by omega))⟩
set_option maxHeartbeats 4000000 in
theorem weave14_no (w:World):Calls Tryz.prog 203 #[.slice none 0 0,.slice none 0 0] w fun e w'=>Wv14 w (.slice none 0 0) 0 (fun _=>none) e w':=by
 have hmm:=@run_makeMap Tryz.prog
 have S0:=W14.new w (.slice none 0 0)
 go_enter Tryz.func203,Tryz.ntmps203
 go_upto_region 2 with fail
 generalize ((((w.alloc (.cells #[.slice none 0 0,.slice none 0 0,.map none,.map none,.map none] tW)).alloc (.map #[] 0)).alloc (.map #[] 0)).alloc (.map #[] 0)).alloc (.cells (webC (.slice none 0 0) (.slice none 0 0) (w.heap.size+1) (w.heap.size+1+1) (w.heap.size+1+1+1)) tW)=W0 at S0 ⊢
 have f1:=S0.x.cell 1 _ rfl
 have g1:=S0.x.frozen 1
 go_wp2_with fail
 refine (clone14_no _).mono ?_
 rintro e w1 ⟨rfl,rfl⟩
 have S1:=S0.put (.slice none 0 0)
 go_upto_region 3 with fail
 generalize w1.setCell ⟨w.heap.size+1+1+1+1,1,none⟩ (.slice none 0 0)=W1 at S1 ⊢
 clear f1 g1 S0
 have f1:=S1.x.cell 1 _ rfl
 have g1:=S1.x.frozen 1
 go_wp2_with fail
 refine (psortI_none none 0 _).mono ?_
 rintro e w2 ⟨rfl,rfl⟩
 go_wp2_with fail
 refine (pcompI_none none 0 _).mono ?_
 rintro e w3 ⟨rfl,rfl⟩
 have S2:=S1.put (.slice none 0 0)
 go_upto_region 5 with fail
 generalize w3.setCell ⟨w.heap.size+1+1+1+1,1,none⟩ (.slice none 0 0)=W2 at S2 ⊢
 clear f1 g1 S1
 have f1:=S2.x.cell 1 _ rfl
 go_wp2_with fail
 go_loopw [28] (fun i wr=>i=.int .i64 0∧wr=W2) (fun _ _=>0)
 case atStart=>exact ⟨rfl,rfl⟩
 case round =>
  obtain ⟨rfl,rfl⟩:=hrel
  go_wp2_with fail
  go_loopw [39] (fun i wq=>i=.int .i64 0∧wq=wr) (fun _ _=>0)
  case atStart=>exact ⟨rfl,rfl⟩
  case round =>
   obtain ⟨rfl,rfl⟩:=hrel
   clear f1
   have f0:=S2.x.cell 0 _ rfl
   have f1:=S2.x.cell 1 _ rfl
   have f2:=S2.x.cell 2 _ rfl
   have f3:=S2.x.cell 3 _ rfl
   have f4:=S2.x.cell 4 _ rfl
   have r0:=S2.r.cell 0 _ rfl
   have r1:=S2.r.cell 1 _ rfl
   have r2:=S2.r.cell 2 _ rfl
   have r3:=S2.r.cell 3 _ rfl
   have r4:=S2.r.cell 4 _ rfl
   have q0:=S2.r.frozen 0
   have q1:=S2.r.frozen 1
   have q2:=S2.r.frozen 2
   have q3:=S2.r.frozen 3
   have q4:=S2.r.frozen 4
   go_wp2_with fail
   exact bodyPost_ret (v:=webV (.slice none 0 0) (.slice none 0 0) (w.heap.size+1) (w.heap.size+1+1) (w.heap.size+1+1+1)) (results_row11 Tryz.results203 _ _ w.heap.size tW _ (0,0) _ rfl S2.res Tryz.underlying263 rfl size_web14) rfl S2.end
set_option maxHeartbeats 2000000 in
theorem strip14_no (w:World) (m1 m2 m3:Nat):Calls Tryz.prog 211 #[webV (.slice none 0 0) (.slice none 0 0) m1 m2 m3,.slice none 0 0] w fun e w'=>e=.returned (.tuple #[])∧Below w.heap.size w w':=by
 have B0:=(Below.refl w.heap.size w).alloc (Nat.le_refl _) (.cells (webC (.slice none 0 0) (.slice none 0 0) m1 m2 m3) tW)
 have B1:=B0.alloc B0.size (.cells #[.slice none 0 0] 23)
 have X1:=Boxed.new (w.alloc (.cells (webC (.slice none 0 0) (.slice none 0 0) m1 m2 m3) tW)) 23 (.slice none 0 0)
 rw [World.size_alloc] at X1
 go_enter Tryz.func211,Tryz.ntmps211
 go_wp2_with fail
 refine (clone14_no _).mono ?_
 rintro e w1 ⟨rfl,rfl⟩
 go_wp2_with fail
 generalize (w.alloc (.cells (webC (.slice none 0 0) (.slice none 0 0) m1 m2 m3) tW)).alloc (.cells #[.slice none 0 0] 23)=W1 at B1 X1 ⊢
 go_loopw [9] (fun _ wr=>wr=W1) (fun _ _=>0)
 case atStart=>exact rfl
 case round =>
  obtain rfl:=hrel
  have c0:=X1.cell
  go_wp2_with fail
  go_end0
  exact ⟨rfl,B1⟩
set_option maxHeartbeats 4000000 in
theorem ring14_no (w:World):Calls Tryz.prog 143 #[.slice none 0 0] w fun e w'=>e=.returned (.tuple #[.slice none 0 0,.bool false])∧Below w.heap.size w w':=by
 go_enter Tryz.func143,Tryz.ntmps143
 go_wp2_with fail
 refine (ends14_no _).mono ?_
 rintro e w1 ⟨rfl,rfl⟩
 go_wp2_with fail
 refine (weave14_no _).mono ?_
 rintro e w2 ⟨rfl,b2,_⟩
 have b3:=b2.alloc b2.size (.cells (webC (.slice none 0 0) (.slice none 0 0) (w1.heap.size+1) (w1.heap.size+1+1) (w1.heap.size+1+1+1)) tW)
 have X3:=SBox.new w2 tW (webC (.slice none 0 0) (.slice none 0 0) (w1.heap.size+1) (w1.heap.size+1+1) (w1.heap.size+1+1+1))
 have c0:=X3.cell 0 _ rfl
 have c1:=X3.cell 1 _ rfl
 have c2:=X3.cell 2 _ rfl
 have c3:=X3.cell 3 _ rfl
 have c4:=X3.cell 4 _ rfl
 go_wp2_with fail
 refine (strip14_no _ _ _ _).mono ?_
 rintro e w4 ⟨rfl,b4⟩
 have B4:=bel_trans b3 b4
 have X4:=X3.below b4
 clear c0 c1 c2 c3 c4
 have c1:=X4.cell 1 _ rfl
 go_wp2_with fail
 go_loopw [5,25] (fun p i wr=>p=.slice none 0 0∧i=.int .i64 0∧wr=w4) (fun _ _ _=>0)
 case atStart=>exact ⟨rfl,rfl,rfl⟩
 case round =>
  obtain ⟨rfl,rfl,rfl⟩:=hrel
  go_wp2_with fail
  obtain ⟨wA,hwA⟩:∃ wA,wA=wr:=⟨_,rfl⟩
  go_loopw [11,58] (fun p i wq=>p=.slice none 0 0∧i=.int .i64 0∧wq=wr) (fun _ _ _=>0)
  case atStart=>exact ⟨rfl,rfl,rfl⟩
  case round =>
   obtain ⟨rfl,rfl,rfl⟩:=hrel
   go_wp2_with fail
   go_ret2
   exact ⟨rfl,B4⟩
end Go.Proofs.YtkkenfhlgpjmjaaGreatDoor
namespace Go.Proofs.YtkkenfhlgpjmjaaGreatDoor
set_option maxRecDepth 100000
open Go.RowKit Go.Sort
set_option linter.unusedVariables false
attribute [local go_sem] ba_size
def NRow (w:World) (L:List Int) (e:Ending) (w':World):Prop:=∃ v,e=.returned v∧Below w.heap.size w w'∧w'.ownsRow w.heap.size 3 1 v L.length (iV L)
set_option maxHeartbeats 2000000 in
theorem pcloneI_any (v:Value) (L:List Int) (w:World) (hO:IsInts w v L) (hS:Shp v) (hn:L.length≤17592186043904) :
 Calls Tryz.prog 252 #[v] w fun e w'=>NRow w L e w':=by
 obtain ⟨i0,hi,hz0,hz1,hz2⟩:=info_parts int_info
 have qT:∀ (w:World) (a:Option Addr) (n c n' c':Nat),(binOp .eql 23 (.slice a n c) (.slice none n' c')).run Tryz.prog w=.ok (.bool a.isNone) w:=fun w a n c n' c'=>Lib.run_eql_slice_nil w _ _ a n c n' c' Tryz.underlying23
 rcases hS with rfl | ⟨ad,n',c',rfl⟩
 ·obtain ⟨a,cap,e,_⟩:=hO.some_at
  have h0:L=[]:=List.length_eq_zero_iff.1 (by simp at e;omega)
  subst h0
  clear hO e
  go_enter Tryz.func252,Tryz.ntmps252
  go_wp2_with fail
  go_ret
  exact ⟨_,rfl,Below.refl _ _,World.ownsRow_nil _ _ _ _⟩
 ·obtain ⟨a,cap,e,q1,q2,q3,HCn⟩:=IsInts.reads hO
  obtain ⟨rfl,rfl,rfl⟩:some ad=a∧n'=L.length∧c'=cap:=by simpa using e
  have E0:=own_empty8 w 3 1
  have BE:=(Below.refl w.heap.size w).alloc (Nat.le_refl _) (.cells #[] 3)
  have SRC:=IsRec.src intV_len (by omega) hO BE
  have LEN:=recV_length intV_len L
  have ONE:=recV_one (enc:=intV) (fun x u hu=>by simp [intV] at hu;subst hu;rfl) L
  obtain ⟨n,hnn⟩:∃ n,L.length=n:=⟨_,rfl⟩
  have HN:Hid (L.length=n):=hnn
  rw [hnn] at q1 q3 LEN hn ⊢
  clear e HCn hnn
  go_enter Tryz.func252,Tryz.ntmps252
  go_wp2_with (at_builtin;refine wpList_append_own _ rfl _ _ 23 rfl w.heap.size 3 i0 (.int .i64 0) 1 8 Tryz.underlying23 hi hz0 hz1 hz2 rfl (by decide) _ _ _ rfl E0 ad n c' (recV intV L) rfl LEN SRC ONE ?d3 ?d4 ?d5 ?_)
  case d3=>unfold maxLen;omega
  case d4=>omega
  case d5=>simp
  intro v1 w1 own1 g1 _
  have hB1:Below w.heap.size w w1:=BE.grown g1 (by simp) (fun j hj=>(E0.lt j hj).1)
  (try rw [List.nil_append,Nat.zero_add] at own1)
  go_wp2_with fail
  go_ret
  refine ⟨_,rfl,hB1,?_⟩
  rw [HN.out,← iV_rec]
  exact own1
theorem psort11_any {W:World} {B:Nat} {v:Value} {L:List Int} (h:W.ownsRow B 3 1 v L.length (iV L)) (hl:L.length < 4611686018427387904) :
 Calls Tryz.prog 172 #[v] W fun e W1=>e=.returned (.tuple #[])∧W.grownBy W1 v.ownBlock∧W1.ownsRow B 3 1 v L.length (iV (L.mergeSort fun x y=>decide (x≤y))):=by
 rcases h.2 with ⟨rfl,h0⟩ | ⟨g,cp,cur,rfl,hbase,hb,k1,k2,k3,k4⟩
 ·have hk0:L=[]:=List.length_eq_zero_iff.1 h0
  subst hk0
  refine (psortI_none none 0 W).mono ?_
  rintro e W1 ⟨rfl,rfl⟩
  exact ⟨rfl,World.grownBy.refl _ _,by rw [List.mergeSort_nil];exact World.ownsRow_nil _ _ _ _⟩
 ·have hH:=holds_of_blockI (ss:=L) hb (by rw [Nat.mul_one] at k4;exact k4)
  have hTS:=fun n os=>ownsRow_sortedI (w:=W) (n:=n) (os:=os) (ts:=L.mergeSort fun x y=>decide (x≤y)) (ss:=L) (by simp) hbase hb k1 k2 k3
  refine (psortI_any g 0 cp L W hH (Array.getElem?_eq_some_iff.1 hb).1 hl).mono ?_
  rintro e w' ⟨r1,nn,os,r2⟩
  refine ⟨r1,by rw [r2];exact grownBy_sortedI _,?_⟩
  rw [r2]
  exact hTS nn os
theorem comp_len (L:List Int):(Lib.compact L).length≤L.length:=by
 unfold Lib.compact Lib.compactUpTo
 rw [List.length_map]
 have:=List.length_filter_le (Lib.keeps L.toArray) (List.range L.length)
 simpa using this
theorem pcomp11_any {W:World} {B:Nat} {v:Value} {L:List Int} (h:W.ownsRow B 3 1 v L.length (iV L)) (hl:L.length≤9223372036854775807) :
 Calls Tryz.prog 253 #[v] W fun e W1=>∃ v',e=.returned v'∧W.grownBy W1 v.ownBlock∧v'.ownBlock=v.ownBlock∧W1.ownsRow B 3 1 v' (Lib.compact L).length (iV (Lib.compact L)):=by
 rcases h.2 with ⟨rfl,h0⟩ | ⟨g,cp,cur,rfl,hbase,hb,k1,k2,k3,k4⟩
 ·have hk0:L=[]:=List.length_eq_zero_iff.1 h0
  subst hk0
  refine (pcompI_none none 0 W).mono ?_
  rintro e W1 ⟨rfl,rfl⟩
  exact ⟨_,rfl,World.grownBy.refl _ _,rfl,World.ownsRow_nil _ _ _ _⟩
 ·have hH:=holds_of_blockI (ss:=L) hb (by rw [Nat.mul_one] at k4;exact k4)
  have hc:=comp_len L
  obtain ⟨K,hK⟩:∃ K,Lib.compact L++List.replicate (L.length - (Lib.compact L).length) 0=K:=⟨_,rfl⟩
  have hKl:K.length=L.length:=by rw [← hK,List.length_append,List.length_replicate];omega
  have hKt:K.take (Lib.compact L).length=Lib.compact L:=by rw [← hK];exact List.take_left' rfl
  have hTS:=fun n=>ownsRow_sortedI (w:=W) (n:=n) (os:=#[]) (ts:=K) (ss:=L) hKl hbase hb k1 k2 k3
  have hGS:=fun n=>grownBy_sortedI (w:=W) (g:=g) (n:=n) (os:=#[]) K.toArray
  refine (pcompI_any g 0 cp L W hH hl k1).mono ?_
  rintro e w' ⟨r1,q,r2⟩
  rw [hK] at r2
  have e0:w'=grow (putRow (Value.int .i64) (Sort.ahead W q) g 0 K.toArray) #[]:=by rw [r2];simp [grow];rfl
  refine ⟨_,r1,?_,rfl,?_⟩
  ·rw [e0];exact hGS q
  ·have hR:HRow w' B g cp K:=by unfold HRow;rw [e0,hKl];exact hTS q
   have:=own_cut11 (n:=(Lib.compact L).length) hR (by omega)
   rw [hKt] at this
   exact this
end Go.Proofs.YtkkenfhlgpjmjaaGreatDoor
namespace Go.Proofs.YtkkenfhlgpjmjaaGreatDoor
set_option maxRecDepth 100000
open Go.RowKit
set_option linter.unusedVariables false
attribute [local go_sem] ba_size
theorem HpS.cell0 {W:World} {B bn:Nat} {a:List Int} (h:HpS W B bn a):∃ ad c,Boxed W bn tR (.slice ad a.length c):=by
 obtain ⟨hB,v,hb,hrow⟩:=h
 obtain ⟨ad,c,rfl⟩:=own_shape11 hrow
 exact ⟨ad,c,hb⟩
set_option maxHeartbeats 2000000 in
theorem phpush_any (W:World) (B bn:Nat) (a:List Int) (x:Int) (hx:I64 x) (h:HpS W B bn a) (hH:Heaped a) (hn:a.length < 17592186044415) :
 Calls Tryz.prog 255 #[ifR bn,.iface 3 (.int .i64 x)] W fun e W'=>e=.returned (.tuple #[])∧(∃ b,HpS W' B bn b∧Pushed a x b)∧Fr B bn W W':=by
 have CP:=ppush11_any W B bn a x hx h (by omega)
 have q1:=nil_push bn W
 have q2:=m_push bn W
 have HHe:Hid (Heaped a):=hH
 have hlt:=h.2
 clear h hH hlt
 go_enter Tryz.func255,Tryz.ntmps255
 go_wp2_with fail
 refine CP.mono ?_
 rintro e w1 ⟨rfl,h1,b1⟩
 obtain ⟨ad,c,hb⟩:=h1.cell0
 have p1:=hb.cell
 have q3:=nil_len bn w1
 have q4:=m_len bn w1 p1
 have hl:(a++[x]).length=a.length+1:=by simp
 have CU:=pup11_any w1 B bn (a++[x]) a.length hl h1 (upI_start a x HHe.out) (by omega)
 rw [hl] at p1 q4
 obtain ⟨n,hnn⟩:∃ n,a.length=n:=⟨_,rfl⟩
 have HN:Hid (a.length=n):=hnn
 rw [hnn] at p1 q4 CU hn
 have z1:IntKind.i64.wrap ((n:Int)+1 - 1)=(n:Int):=by rw [IntKind.wrap_i64];omega
 have CLn:=plen11_any ad (n+1) c w1
 clear hnn hl hb h1
 go_wp2_with fail
 refine CLn.mono ?_
 rintro e w2 ⟨rfl,rfl⟩
 go_wp2_with fail
 refine CU.mono ?_
 rintro e w3 ⟨rfl,⟨b,hb3,hp3,hh3⟩,b3⟩
 have HE:Hid (∃ b,HpS w3 B bn b∧Pushed a x b):=⟨b,hb3,pushed_of a b x hp3 (by rw [HN.out];exact hh3)⟩
 have B3:Fr B bn W w3:=b1.trans b3
 clear hb3 hp3 hh3
 go_wp2_with fail
 go_end0
 exact ⟨rfl,HE.out,B3⟩
set_option maxHeartbeats 2000000 in
theorem phpop_any (W:World) (B bn:Nat) (a:List Int) (h:HpS W B bn a) (hH:Heaped a) (h0:0 < a.length) (hn:a.length≤17592186044416) :
 Calls Tryz.prog 256 #[ifR bn] W fun e W'=>(∃ x b,e=.returned (.iface 3 (.int .i64 x))∧HpS W' B bn b∧Popped a x b)∧Fr B bn W W':=by
 obtain ⟨n,hnn⟩:∃ n,a.length=n+1:=⟨a.length - 1,by omega⟩
 have HN:Hid (a.length=n+1):=hnn
 have HHe:Hid (Heaped a):=hH
 obtain ⟨g,cp,hB,hb,hr,hBg,hgne⟩:=h.row h0
 have p0:=hb.cell
 have q1:=nil_len bn W
 have q2:=m_len bn W p0
 have q3:=nil_swap bn W
 have q4:=m_swap bn W p0
 have CLn:=plen11_any (some ⟨g,0,none⟩) (n+1) cp W
 have CS:=pswap11_any W B g cp a hr 0 n (by omega) (by omega) (by omega)
 have HBx:Hid (Boxed W bn tR (.slice (some ⟨g,0,none⟩) a.length cp)):=hb
 have HRr0:Hid (HRow W B g cp a):=hr
 rw [hnn] at p0 q2 q4 CS hn
 have z1:IntKind.i64.wrap ((n:Int)+1 - 1)=(n:Int):=by rw [IntKind.wrap_i64];omega
 clear h hb hr hnn hH h0
 go_enter Tryz.func256,Tryz.ntmps256
 go_wp2_with fail
 refine CLn.mono ?_
 rintro e w1 ⟨rfl,rfl⟩
 go_wp2_with fail
 refine CS.mono ?_
 rintro e w2 ⟨rfl,hr2,g2⟩
 have hN:=HN.out
 have hS2:HpS w2 B bn (swL a 0 n):=HpS.of_swap (swL_len a 0 n) hB HBx.out hgne hr2 g2
 have B2:Fr B bn w1 w2:=(Fr.refl B bn w1).row HRr0.out HBx.out (by decide) g2 (by have:=HBx.out.lt;omega)
 have CD:=pdown11_any w2 B bn (swL a 0 n) n (by rw [swL_len,hN]) hS2 (downI_start a n hN (by have:=HHe.out;unfold Heaped at this;rw [hN] at this;exact this)) (by omega)
 clear hS2 hr2
 go_wp2_with fail
 refine CD.mono ?_
 rintro e w3 ⟨⟨bo,rfl⟩,⟨c,hc1,hc2,hc3,hc4⟩,b3⟩
 have hpa:c.Perm a:=hc2.trans (swL_perm a 0 n (by omega) (by omega))
 have hlast:hg c n=hg a 0:=by
  rw [hc4,swL_at a 0 n n (by omega) (by omega),if_pos rfl]
 have hcl:c.length=n+1:=by rw [hpa.length_eq,hN]
 have HPo:Hid (Popped a (hg a 0) (c.take n)):=popped_of a c n hN HHe.out hpa hc3 hlast
 have hce:c=c.take n++[hg a 0]:=by
  have h1:c.take (n+1)=c.take n++[c[n]]:=List.take_succ_eq_append_getElem (by omega)
  rw [List.take_of_length_le (by omega)] at h1
  have h2:c[n]=hg a 0:=by rw [← hlast];simp [hg,hcl]
  rw [h2] at h1
  exact h1
 rw [hce] at hc1
 have CP:=ppop11_any w3 B bn (c.take n) (hg a 0) hc1 (by rw [List.length_take];omega)
 clear hlast hc4 hce hc1
 obtain ⟨y,hy⟩:∃ y,hg a 0=y:=⟨_,rfl⟩
 rw [hy] at CP HPo
 clear hy
 have q5:=nil_pop bn w3
 have q6:=m_pop bn w3
 have HB3:Hid (Fr B bn w1 w3):=B2.trans b3
 clear hc2 hc3 hpa hcl
 go_wp2_with fail
 refine CP.mono ?_
 rintro e w4 ⟨rfl,h4,b4⟩
 have H4:Hid (HpS w4 B bn (c.take n)):=h4
 have B4:Fr B bn w1 w4:=HB3.out.trans b4
 clear h4
 go_wp2_with fail
 go_ret
 exact ⟨⟨_,_,rfl,H4.out,HPo.out⟩,B4⟩
theorem padd11_any (W:World) (B bn:Nat) (a:List Int) (x:Int) (hx:I64 x) (h:HpS W B bn a) (hH:Heaped a) (hn:a.length < 17592186044415) :
 Calls Tryz.prog 205 #[.pointer (some ⟨bn,0,none⟩),.int .i64 x] W fun e W'=>e=.returned (.tuple #[])∧(∃ b,HpS W' B bn b∧Pushed a x b)∧Fr B bn W W':=by
 have C:=phpush_any W B bn a x hx h hH hn
 clear h hH
 go_enter Tryz.func205,Tryz.ntmps205
 go_wp2_with fail
 refine C.mono ?_
 rintro e w1 ⟨rfl,h1,b1⟩
 have HE:Hid (∃ b,HpS w1 B bn b∧Pushed a x b):=h1
 clear h1
 go_wp2_with fail
 go_end0
 exact ⟨rfl,HE.out,b1⟩
theorem pleast11_any (W:World) (B bn:Nat) (a:List Int) (h:HpS W B bn a) (hH:Heaped a) (h0:0 < a.length) (hn:a.length≤17592186044416) :
 Calls Tryz.prog 207 #[.pointer (some ⟨bn,0,none⟩)] W fun e W'=>(∃ x b,e=.returned (.int .i64 x)∧HpS W' B bn b∧Popped a x b)∧Fr B bn W W':=by
 have C:=phpop_any W B bn a h hH h0 hn
 clear h hH h0
 go_enter Tryz.func207,Tryz.ntmps207
 go_wp2_with fail
 refine C.mono ?_
 rintro e w1 ⟨⟨x,b,rfl,h1,h2⟩,b1⟩
 have hta:∀ V,(Instr.typeAssert (.iface 3 (.int .i64 x)) 20 3 false).run Tryz.prog V=.ok (.int .i64 x) V:=fun V=>by kernel_rfl
 have HE:Hid (HpS w1 B bn b∧Popped a x b):=⟨h1,h2⟩
 clear h1 h2
 go_wp2_with fail
 go_ret
 exact ⟨⟨x,b,rfl,HE.out.1,HE.out.2⟩,b1⟩
end Go.Proofs.YtkkenfhlgpjmjaaGreatDoor
namespace Go.Proofs.YtkkenfhlgpjmjaaGreatDoor
set_option maxRecDepth 100000
open Go.RowKit Go.Shelf Go.Maps
set_option linter.unusedVariables false
attribute [local go_sem] Oper.semAt_some ba_size
structure QSt (w:World) (sl v:Value) (m:Nat) (q:List UInt8→Bool) (K:List (List UInt8)) (W:World):Prop where
 below:Below w.heap.size w W
 size:w.heap.size+1+1+1+1≤W.heap.size
 bv:Boxed W (w.heap.size) 59 v
 bm:TSet W (w.heap.size+1) m q
 bb:Boxed W (w.heap.size+1+1) 300 (.map (some (w.heap.size+1)))
 be:Boxed W (w.heap.size+1+1+1) 22 sl
 row:W.ownsRow w.heap.size 9 1 v K.length (strV K)
 far:∀ g,v.ownBlock=some g→w.heap.size+1+1+1+1≤g
section
variable {w:World} {sl v:Value} {m:Nat} {q:List UInt8→Bool} {K:List (List UInt8)} {W W':World} {row:Option Nat}
theorem QSt.turn (h:QSt w sl v m q K W) (hg:W.grownBy W' row) (hr:∀ r,row=some r→w.heap.size+1+1+1+1≤r∧∃ o:Obj,W.heap[r]?=some o∧o.isCells=false):QSt w sl v m q K W':=by
 have o:∀ j,j < w.heap.size+1+1+1+1→some j≠row:=fun j hj e=>by have:=(hr j e.symm).1;omega
 exact ⟨h.below.grown hg (by have:=h.size;omega) (fun r e=>by have:=(hr r e).1;omega),Nat.le_trans h.size hg.size,h.bv.kept hg (o _ (by omega)),h.bm.kept hg (o _ (by omega)),h.bb.kept hg (o _ (by omega)),h.be.kept hg (o _ (by omega)),owns_turn h.row hg (fun r e=>(hr r e).2),h.far⟩
theorem QSt.bel (h:QSt w sl v m q K W) (hb:Below W.heap.size W W'):QSt w sl v m q K W':=h.turn (grown_below8 none hb) (fun r e=>by cases e)
theorem QSt.map {m':Nat} {q':List UInt8→Bool} (h:QSt w sl v m q K W) (hg:W.grownBy W' (some (w.heap.size+1))) (hf:TSet W' (w.heap.size+1) m' q'):QSt w sl v m' q' K W':=by
 have o:∀ j,j≠w.heap.size+1→some j≠some (w.heap.size+1):=fun j hj e=>hj (Option.some.inj e)
 refine ⟨h.below.grown hg (by have:=h.size;omega) (fun r e=>by cases e;omega),Nat.le_trans h.size hg.size,h.bv.kept hg (o _ (by omega)),hf,h.bb.kept hg (o _ (by omega)),h.be.kept hg (o _ (by omega)),h.row.kept hg ?_,h.far⟩
 cases hv:v.ownBlock with
 | none=>exact .inl rfl
 | some g=>exact .inr (fun e=>by have:=h.far g hv;have:=Option.some.inj e;omega)
theorem QSt.keep (h:QSt w sl v m q K W) {m':Nat} (hm:m≤m'):QSt w sl v m' q K W:=⟨h.below,h.size,h.bv,h.bm.mono hm,h.bb,h.be,h.row,h.far⟩
theorem QSt.app {v':Value} {K':List (List UInt8)} {tmp:Obj} (h:QSt w sl v m q K W) (hown:W'.ownsRow w.heap.size 9 1 v' K'.length (strV K')) (hg:(W.alloc tmp).grownBy W' v.ownBlock) (hat:v'.ownBlock=v.ownBlock∨v'.ownBlock=some (W.heap.size+1)) :
 QSt w sl v' m q K' (W'.setCell ⟨w.heap.size,0,none⟩ v'):=by
 have hs:=h.size
 have hfar:∀ g,v'.ownBlock=some g→w.heap.size+1+1+1+1≤g:=fun g hv=>by
  rcases hat with e | e
  ·exact h.far g (by rw [← e];exact hv)
  ·rw [hv] at e
   have:=Option.some.inj e
   omega
 have o:∀ j,j < w.heap.size+1+1+1+1→some j≠v.ownBlock:=fun j hj e=>by have:=h.far j e.symm;omega
 have hsz:=hg.size
 rw [World.size_alloc] at hsz
 have hb:Below w.heap.size w W':=(h.below.alloc h.below.size _).grown hg (by simp;omega) (fun r e=>by have:=h.far r e;omega)
 refine ⟨hb.setCell (p:=⟨w.heap.size,0,none⟩) (Nat.le_refl _) _,by simp;omega,((h.bv.alloc _).kept hg (o _ (by omega))).set _,?_,((h.bb.alloc _).kept hg (o _ (by omega))).other (by omega) _,((h.be.alloc _).kept hg (o _ (by omega))).other (by omega) _,owns_keep7 (g:=w.heap.size) (j:=0) hown _ (fun e=>by have:=hfar _ e.symm;omega),hfar⟩
 refine TSet.same (W:=W') ((h.bm.kept (World.grownBy_alloc _ tmp none) (by simp)).kept hg (o _ (by omega))) ?_
 exact Below.heap_setCell _ _ _ _ (by simp)
end
theorem str_info8k:(Tryz.prog.info? 9).map (fun i=>(i.zero,i.size,i.bytes))=some (some (.string ByteArray.empty),1,16):=by kernel_rfl
theorem strV_one (K:List (List UInt8)) (y:List UInt8):strV (K++[y])=strV K++[.string ⟨y.toArray⟩]:=by unfold strV;rw [List.map_append];rfl
theorem zero8u' (w:World):(zeroValue 167).run Tryz.prog w=.ok (.agg #[]) w:=by kernel_rfl
theorem kpE_bel8 {n b:Nat} {W W':World} (hn:n≤W.heap.size) (hb:b < W.heap.size) (h:Below W.heap.size W W'):KpE n b W W':=⟨h.mono hn,h.block b hb⟩
theorem kpE_grown8 {n b:Nat} {W W':World} {row:Option Nat} (hn:n≤W.heap.size) (hb:b < W.heap.size) (hg:W.grownBy W' row) (hr:∀ r,row=some r→n≤r∧r≠b):KpE n b W W' :=
 ⟨(Below.refl n W).grown hg hn (fun r e=>(hr r e).1),hg.block b hb (fun e=>(hr b e.symm).2 rfl)⟩
def QInv (w:World) (sl:Value) (h:List Ev) (pre:List (Fin h.length)) (W:World):Prop :=
 ∃ v,QSt w sl v pre.length (fun t=>decide (t∈kyF h pre)) (kyF h pre) W
set_option maxHeartbeats 4000000 in
theorem pkeys8_any (h:List Ev) (v:Value) (w:World) (hT:IsEvs w v h) (hG:∀ x∈h,goodE x) (hn:h.length≤300) :
 Calls Tryz.prog 201 #[v] w fun e w'=>TxsRow w (keysL h) e w':=by
 have hT0:=hT
 obtain ⟨a,cap,rfl,h1,h2,h3,HC⟩:=hT.some_at
 clear HC hT
 have hmm:=@run_makeMap Tryz.prog
 obtain ⟨i0,hi,hz0,hz1,hz2⟩:=info_parts str_info8k
 refine (callsIn_wide (n:=3)).1 ?_
 refine callsIn_of_wp_marks Tryz.func201 rfl trivial ?_ rfl
 simp only [Tryz.ntmps201,List.size_toArray,List.length_cons,List.length_nil,Nat.reduceAdd,Nat.reduceSub,Array.replicate_succ,Array.replicate_zero,List.push_toArray,List.append_toArray,List.nil_append,List.cons_append]
 gi_wp2_with ((try refine ⟨trivial,?_⟩);gi_at_call 135;refine (callsIn_wide.2 (pevents8_any _ _ _ _)).mono ?_;rintro e w2 ⟨rfl,rfl⟩)
 have hS0:QSt w (.slice a h.length cap) (.slice none 0 0) 0 (fun _=>false) [] ((((w.alloc (.cells #[.slice none 0 0] 59)).alloc (.map #[] 0)).alloc (.cells #[.map (some (w.heap.size+1))] 300)).alloc (.cells #[.slice a h.length cap] 22)):=by
  have b0:=(((Boxed.new w 59 (.slice none 0 0)).alloc (.map #[] 0)).alloc (.cells #[.map (some (w.heap.size+1))] 300)).alloc (.cells #[.slice a h.length cap] 22)
  have b1:=((TSet.made (w.alloc (.cells #[.slice none 0 0] 59))).kept (World.grownBy_alloc _ (.cells #[.map (some (w.heap.size+1))] 300) none) (by simp)).kept (World.grownBy_alloc _ (.cells #[.slice a h.length cap] 22) none) (by simp)
  have b2:=(Boxed.new ((w.alloc (.cells #[.slice none 0 0] 59)).alloc (.map #[] 0)) 300 (.map (some (w.heap.size+1)))).alloc (.cells #[.slice a h.length cap] 22)
  have b3:=Boxed.new (((w.alloc (.cells #[.slice none 0 0] 59)).alloc (.map #[] 0)).alloc (.cells #[.map (some (w.heap.size+1))] 300)) 22 (.slice a h.length cap)
  simp only [World.size_alloc] at b0 b1 b2 b3
  exact ⟨((((Below.refl _ w).alloc (Nat.le_refl _) _).alloc (by simp) _).alloc (by simp;omega) _).alloc (by simp;omega) _,by simp,b0,b1,b2,b3,World.ownsRow_nil _ _ _ _,fun g hg=>by simp [Value.ownBlock] at hg⟩
 obtain ⟨W0,hW0⟩:∃ W0,((((w.alloc (.cells #[.slice none 0 0] 59)).alloc (.map #[] 0)).alloc (.cells #[.map (some (w.heap.size+1))] 300)).alloc (.cells #[.slice a h.length cap] 22))=W0:=⟨_,rfl⟩
 have sW0:W0.heap.size=w.heap.size+1+1+1+1:=by rw [← hW0];simp
 change Code.wpIn _ _ _ _ _ _ ((((w.alloc (.cells #[.slice none 0 0] 59)).alloc (.map #[] 0)).alloc (.cells #[.map (some (w.heap.size+1))] 300)).alloc (.cells #[.slice a h.length cap] 22))
 rw [hW0] at hS0 ⊢
 clear hW0
 refine wpIn_rangeFunc_ownH rfl (by omega) (gf:=192) (lb:=#[.pointer (some ⟨w.heap.size+1+1+1,0,none⟩)]) rfl trivial (enters_of Tryz.func192 (by kernel_rfl) rfl)
  (events8_stops h w a cap hT0 (w.heap.size+1+1+1) (3 - 1) W0 hS0.below hS0.be) (fun h k=>kpE_t h k) (kpE_b (by omega) (by omega)) (Below.refl _ _) (fun _=>rfl)
  (QInv w (.slice a h.length cap) h) (fun _ _ _=>False)
  (fun s X Y row ⟨v,hs⟩ hg hr=>⟨v,hs.turn hg (fun r e=>⟨by have:=(hr r e).1;omega,(hr r e).2⟩)⟩)
  (fun _=>ownFrom_false _)
  ⟨_,by
   have e:(fun t:List UInt8=>decide (t∈kyF h []))=fun _=>false:=by funext t;show decide (t∈[])=false;simp
   rw [e]
   exact hS0⟩
  (fun x a' W=>∃ Bx,w.heap.size+1+1+1 < Bx∧SBox W Bx 64 #[.int .i64 h[x.val].1,.int .i64 h[x.val].2.1,.string ⟨h[x.val].2.2.1.toArray⟩,.string ⟨h[x.val].2.2.2.toArray⟩]∧a'={ tmps:=#[.slice a h.length cap,undef,.slice none 0 0,.pointer (some ⟨w.heap.size,0,none⟩),.pointer (some ⟨w.heap.size+1+1,0,none⟩),undef,.pointer (some ⟨Bx,0,none⟩),undef,undef,.map (some (w.heap.size+1)),.slice a h.length cap,eventsF8 (w.heap.size+1+1+1),.int .i64 (x.val:Int),evW h[x.val],undef,undef,undef,undef,undef,undef,undef,undef,undef,undef,undef,undef,undef,undef,undef,undef,undef,undef,undef,undef,undef,undef,undef,undef,undef,undef,undef,undef,undef],defers:=[] })
  (fun x a' _ A B row hs hg hr=>by
   obtain ⟨Bx,h1,h2,h4⟩:=hs
   exact ⟨Bx,h1,block_kept h2 hg (fun r e=>(hr r e).2),h4⟩)
  ?assign ?body ?done ?stop
 case assign =>
  rintro l pre x W K ⟨v,hS⟩ hK
  have hsz:=hS.size
  have b1:=(Below.refl W.heap.size W).alloc (Nat.le_refl _) (.cells #[.int .i64 h[x.val].1,.int .i64 h[x.val].2.1,.string ⟨h[x.val].2.2.1.toArray⟩,.string ⟨h[x.val].2.2.2.toArray⟩] 64)
  gi_wp2
  refine hK _ _ ((KeepsOthers.alloc _ _).from _) (kpE_bel8 (by omega) (by omega) b1) ⟨v,hS.bel b1⟩ ⟨W.heap.size,by omega,SBox.new W _ _,rfl⟩
 case body =>
  rintro l pre x a' W hl hrec ⟨v,hS⟩ ⟨Bx,hBx,hblk,rfl⟩ hlt
  have HW0:Hid (W0.heap.size=w.heap.size+1+1+1+1):=sW0
  clear sW0 hS0 hl hrec
  have hsz:=hS.size
  have hxn:=x.isLt
  have hgx:=hG h[x.val] (List.getElem_mem _)
  obtain ⟨⟨y0,y1,y2,y3⟩,hy⟩:∃ y,h[x.val]=y:=⟨_,rfl⟩
  have HV:Hid (kyF h (pre++[x])=kyS (kyF h pre) (y0,y1,y2,y3)):=by show _=_;rw [kyF_snoc,hy]
  have lenL:=kyF_len h pre
  obtain ⟨K,hs⟩:∃ K,kyF h pre=K:=⟨_,rfl⟩
  rw [hs] at hS lenL HV
  clear hs
  rw [hy] at hblk hgx ⊢
  simp only at hblk hgx
  clear hy
  have ki:=key8s (t:=y2) (by have hl:y2.length≤140737488351232:=hgx.2.2.1;omega)
  clear hgx
  obtain ⟨i,hxi⟩:∃ i,x.val=i:=⟨_,rfl⟩
  rw [hxi] at hxn ⊢
  clear hxi
  have LX:Hid ((pre++[x]).length=pre.length+1):=by show _=_;simp
  have c3:=hS.bb.cell
  have q0:=hblk.cell 0 _ rfl
  have q2:=hblk.cell 2 _ rfl
  have bU:=(Below.refl W.heap.size W).alloc (Nat.le_refl _) (.cells #[] 167)
  obtain ⟨D1,hown1,hD1⟩:=hS.bm
  have hy1:=hD1 y2
  by_cases hk:y0=2∨y0=3
  ·have e2:(y0 != 2)=false∨(y0 != 2)=true∧(y0 != 3)=false:=by
    rcases hk with rfl | rfl
    ·exact Or.inl rfl
    ·exact Or.inr ⟨rfl,rfl⟩
   by_cases hm:y2∈K
   ·have HF:Hid (KeepsFrom W0.heap.size W (W.alloc (.cells #[] 167))∧KpE w.heap.size (w.heap.size+1+1+1) W (W.alloc (.cells #[] 167))∧QInv w (.slice a h.length cap) h (pre++[x]) (W.alloc (.cells #[] 167))):=by
     refine ⟨(KeepsOthers.alloc _ _).from _,kpE_bel8 (by omega) (by omega) bU,v,?_⟩
     have e:kyS K (y0,y1,y2,y3)=K:=by unfold kyS;rw [if_pos hk,if_pos hm]
     rw [LX.out,HV.out,e]
     exact (hS.bel bU).keep (Nat.le_succ _)
    have hy2:Maps.has D1 (.string y2)=true:=hy1.trans (decide_eq_true hm)
    clear hS hD1 hy1 hm hk HV
    rcases e2 with e2 | ⟨e2,e3⟩
    all_goals
     gi_wp2_with (gi_at_lookup;refine wpListIn_lookup_own_unit _ rfl _ _ 300 rfl 9 167 law8s Tryz.underlying300 (zero8u' _) (w.heap.size+1) pre.length D1 rfl hown1 _ _ rfl ki ?_;rw [hy2])
     exact HF.out
   ·have hy2:Maps.has D1 (.string y2)=false:=hy1.trans (decide_eq_false hm)
    have HE:Hid (kyS K (y0,y1,y2,y3)=K++[y2]):=by show _=_;unfold kyS;rw [if_pos hk,if_neg hm]
    have hSU:=hS.bel bU
    have xU:=hblk.below bU
    have c3U:=hSU.bb.cell
    have q2U:=xU.cell 2 _ rfl
    obtain ⟨DU,hownU,hDU⟩:=hSU.bm
    clear hy1 hm hk
    rcases e2 with e2 | ⟨e2,e3⟩
    all_goals
     gi_wp2_with (first
      | (gi_at_lookup;refine wpListIn_lookup_own_unit _ rfl _ _ 300 rfl 9 167 law8s Tryz.underlying300 (zero8u' _) (w.heap.size+1) pre.length D1 rfl hown1 _ _ rfl ki ?_;rw [hy2])
      | (gi_at_mapUpdate;refine wpListIn_mapUpdate_own _ rfl _ _ _ 300 rfl 9 167 law8s Tryz.underlying300 _ (w.heap.size+1) pre.length DU rfl hownU (by unfold maxLen;omega) _ _ _ rfl rfl ki _ [] unitElem_mk ?_;intro W1 hown2 hg2;refine Hid.out ?_))
     have hS1:=hSU.map hg2 (TSet.put hDU hownU.isMap y2 hown2)
     have z1:=hg2.size
     rw [World.size_alloc] at z1
     have x1:SBox W1 Bx 64 #[.int .i64 y0,.int .i64 y1,.string ⟨y2.toArray⟩,.string ⟨y3.toArray⟩]:=(hg2.block Bx xU.lt (fun e=>by have:=Option.some.inj e;omega)).trans xU
     have KK1:KeepsFrom W0.heap.size W W1:=by
      have hw0:=HW0.out
      exact ((KeepsOthers.alloc W (.cells #[] 167)).from _).trans (KeepsFrom.of_grownBy hg2 (fun j e=>by cases e;omega))
     have KP1:KpE w.heap.size (w.heap.size+1+1+1) W W1:=kpE_t (kpE_bel8 (by omega) (by omega) bU) (kpE_grown8 (by simp;omega) (by simp;omega) hg2 (fun r e=>by cases e;omega))
     have cv:=hS1.bv.cell
     have gv:=hS1.bv.frozen
     have d2:=x1.cell 2 _ rfl
     have hrow:=hS1.row
     refine Lib.hid ?_
     gi_wp2_with (gi_at_builtin;refine wpListIn_append_own_at _ rfl _ _ 59 rfl w.heap.size 9 i0 (.string ByteArray.empty) 1 16 Tryz.underlying59 hi hz0 hz1 hz2 rfl (by decide) _ _ _ rfl (hrow.alloc _) ⟨W1.heap.size,0,none⟩ 1 1 [.string ⟨y2.toArray⟩] rfl rfl ?a1 ?a2 ?a3 ?a4 ?a5 ?_)
     case a1=>intro j u hj;match j,hj with
      | 0,hj=>simp at hj;subst hj;simp [Addr.add]
     case a2=>intro u hu;simp at hu;subst hu;rfl
     case a3=>unfold maxLen;omega
     case a4=>omega
     case a5=>simp;omega
     intro v' W2 hown2' hg2' _ hat2
     obtain ⟨g',cap',rfl⟩:=ownsRow_succ hown2'
     have hS2:=hS1.app (K':=K++[y2]) (by rw [strV_one,List.length_append];exact hown2') hg2' hat2
     have bv2:=(hS1.bv.alloc (.cells #[.string ⟨y2.toArray⟩] 9)).kept hg2' (fun e=>by have:=hS1.far _ e.symm;omega)
     have cv2:=bv2.cell
     have gv2:=bv2.frozen
     have z2:=hg2'.size
     rw [World.size_alloc] at z2
     have KK2:=(KK1.trans ((KeepsOthers.alloc W1 (.cells #[.string ⟨y2.toArray⟩] 9)).from _)).trans ((keeps_row (hrow.alloc (.cells #[.string ⟨y2.toArray⟩] 9)) hg2').from _)
     have KP2:=kpE_t (kpE_t KP1 (kpE_bel8 (by omega) (by omega) ((Below.refl W1.heap.size W1).alloc (Nat.le_refl _) (.cells #[.string ⟨y2.toArray⟩] 9)))) (kpE_grown8 (by simp;omega) (by simp;omega) hg2' (fun r e=>by have:=hS1.far r e;omega))
     have HF:Hid (KeepsFrom W0.heap.size W (W2.setCell ⟨w.heap.size,0,none⟩ (.slice (some ⟨g',0,none⟩) (K.length+1) cap'))∧KpE w.heap.size (w.heap.size+1+1+1) W (W2.setCell ⟨w.heap.size,0,none⟩ (.slice (some ⟨g',0,none⟩) (K.length+1) cap'))∧QInv w (.slice a h.length cap) h (pre++[x]) (W2.setCell ⟨w.heap.size,0,none⟩ (.slice (some ⟨g',0,none⟩) (K.length+1) cap'))):=by
      refine ⟨KK2.trans ((KeepsOthers.setCell _ _ _).from _),kpE_t KP2 (kpE_grown8 (by omega) (by omega) (grownBy_setCell' _ _ _) (fun r e=>by cases e;omega)),.slice (some ⟨g',0,none⟩) (K.length+1) cap',?_⟩
      have e:(fun t=>decide (t∈K++[y2]))=fun u=>(decide (u∈K) || decide (y2=u)):=by
       funext u
       rw [Bool.eq_iff_iff,Bool.or_eq_true,decide_eq_true_eq,decide_eq_true_eq,decide_eq_true_eq,List.mem_append,List.mem_singleton]
       exact ⟨fun hh=>hh.imp id Eq.symm,fun hh=>hh.imp id Eq.symm⟩
      rw [LX.out,HV.out,HE.out,e]
      exact hS2
     clear hS hS1 hS2 hown1 hown2 hown2' KK1 KP1 KK2 KP2 HV HE x1 hrow hat2 hD1 hDU hownU
     gi_wp2
     exact HF.out
  ·have e2:(y0 != 2)=true:=by rw [bne_iff_ne];exact fun e=>hk (Or.inl e)
   have e3:(y0 != 3)=true:=by rw [bne_iff_ne];exact fun e=>hk (Or.inr e)
   have HF:Hid (KeepsFrom W0.heap.size W W∧KpE w.heap.size (w.heap.size+1+1+1) W W∧QInv w (.slice a h.length cap) h (pre++[x]) W):=by
    refine ⟨KeepsFrom.refl _ _,⟨Below.refl _ _,rfl⟩,v,?_⟩
    have e:kyS K (y0,y1,y2,y3)=K:=by unfold kyS;rw [if_neg hk]
    rw [LX.out,HV.out,e]
    exact hS.keep (Nat.le_succ _)
   clear hS hD1 hy1 hk HV
   gi_wp2
   exact HF.out
 case done =>
  rintro D ys W hD rfl ⟨v,hS⟩ hK
  have HE:Hid (((kyF h (List.finRange h.length)).mergeSort fun x y=>decide (x≤y))=keysL h):=ky_sorted h
  have c1:=hS.bv.cell
  have HD:Hid (w.heap.size+1+1+1+1≤D):=by rw [sW0] at hD;exact hD
  have lenL:=kyF_len h (List.finRange h.length)
  rw [List.length_finRange] at lenL
  obtain ⟨K,hs⟩:∃ K,kyF h (List.finRange h.length)=K:=⟨_,rfl⟩
  rw [hs] at hS HE lenL
  clear sW0 hS0 hD hs
  rcases hS.row.2 with ⟨rfl,h0⟩ | ⟨g,cp,cur,rfl,hbase,hb,k1,k2,k3,k4⟩
  ·have hk0:K=[]:=List.length_eq_zero_iff.1 h0
   gi_wp2_with ((try refine ⟨trivial,?_⟩);gi_at_call 248;refine (callsIn_wide.2 (psort_none none 0 W)).mono ?_;rintro e W1 ⟨rfl,rfl⟩)
   refine ⟨by simp,.inl ⟨_,_,rfl,run_takeDeferred hK,?_⟩⟩
   refine ⟨_,results_tmp rfl _ _ _,_,rfl,hS.below.trans (belowK_b (w:=w) (Nat.le_refl _) _ D _ _ (by have:=HD.out;omega) hK rfl rfl),?_⟩
   have e:keysL h=[]:=by rw [← HE.out,hk0];simp
   rw [e]
   exact World.ownsRow_nil _ _ _ _
  ·have hH:=holds_of_block (ss:=K) hb (by simpa [strV] using k4)
   have hfar:=hS.far g rfl
   have hTS:=fun n os=>ownsRow_sorted (w:=W) (n:=n) (os:=os) (ts:=K.mergeSort fun x y=>decide (x≤y)) (ss:=K) (by simp) hbase hb k1 k2 k3
   have C:Calls Tryz.prog 248 #[.slice (some ⟨g,0,none⟩) K.length cp] W fun e W1=>e=.returned (.tuple #[])∧W.grownBy W1 (some g)∧W1.ownsRow w.heap.size 9 1 (.slice (some ⟨g,0,none⟩) K.length cp) K.length ((K.mergeSort fun x y=>decide (x≤y)).map encStr) :=
    (psort_any g 0 cp K W hH (Array.getElem?_eq_some_iff.1 hb).1 (by omega)).mono (fun e w' ⟨r1,nn,os,r2⟩=>⟨r1,by rw [r2];exact grownBy_sorted _,by rw [r2];exact hTS nn os⟩)
   gi_wp2_with ((try refine ⟨trivial,?_⟩);gi_at_call 248;refine (callsIn_wide.2 C).mono ?_;clear C;rintro e W1 ⟨rfl,hg,hT1⟩;refine Hid.out ?_)
   have b1:=hS.bv.kept hg (fun e=>by have:=Option.some.inj e;omega)
   have d1:=b1.cell
   have hK1:W1.heap[D]?=some (.deferred (some [])):=(hg.block D (Array.getElem?_eq_some_iff.1 hK).1 (fun e=>by cases e;rw [hb] at hK;cases hK)).trans hK
   have hB1:Below w.heap.size w W1:=hS.below.grown hg (by have:=hS.size;omega) (fun r e=>by cases e;omega)
   rw [HE.out] at hT1
   have hLen:(keysL h).length=K.length:=by rw [← HE.out];simp
   have HLen:Hid ((keysL h).length=K.length):=hLen
   clear hg hTS hLen hS hb hH c1
   refine Lib.hid ?_
   gi_wp2
   refine ⟨by simp,.inl ⟨_,_,rfl,run_takeDeferred hK1,?_⟩⟩
   refine ⟨_,results_tmp rfl _ _ _,_,rfl,hB1.trans (belowK_b (w:=w) (Nat.le_refl _) _ D _ _ (by have:=HD.out;omega) hK1 rfl rfl),?_⟩
   rw [HLen.out]
   exact ownsRow_putObj hT1 _ hK1 rfl
 case stop =>
  rintro D c pre W hD hSp h hK
  exact h.elim
end Go.Proofs.YtkkenfhlgpjmjaaGreatDoor
namespace Go.Proofs.YtkkenfhlgpjmjaaGreatDoor
set_option maxRecDepth 100000
open Go.RowKit Go.Shelf
set_option linter.unusedVariables false
attribute [local go_sem] Oper.semAt_some ba_size
theorem pwriter8_any (h:List Ev) (v:Value) (w:World) (hT:IsEvs w v h) (key val:List UInt8) :
 Calls Tryz.prog 169 #[v,.string ⟨key.toArray⟩,.string ⟨val.toArray⟩] w fun e w'=>e=.returned (.int .i64 (oI (writerL h key val)))∧Below w.heap.size w w':=by
 have b1:=(Below.refl w.heap.size w).alloc (Nat.le_refl _) (.cells #[.string ⟨key.toArray⟩] 9)
 have b2:=b1.alloc (by simp) (.cells #[.string ⟨val.toArray⟩] 9)
 have k1:=(Boxed.new w 9 (.string ⟨key.toArray⟩)).alloc (.cells #[.string ⟨val.toArray⟩] 9)
 have k2:=Boxed.new (w.alloc (.cells #[.string ⟨key.toArray⟩] 9)) 9 (.string ⟨val.toArray⟩)
 rw [World.size_alloc] at k2
 have C:=pfirstW_any h v _ (hT.below b2) key val _ _ k1 k2
 have HE:Hid (fi (fun k=>decide ((ev h k).1=3∧(ev h k).2.2.1=key∧(ev h k).2.2.2=val)) h.length=writerL h key val):=rfl
 rw [HE.out] at C
 obtain ⟨r,hr⟩:∃ r,writerL h key val=r:=⟨_,rfl⟩
 rw [hr] at C ⊢
 clear hr HE hT
 go_enter Tryz.func169,Tryz.ntmps169
 go_wp2_with fail
 refine C.mono ?_
 rintro e w1 ⟨rfl,bb⟩
 go_wp2_with fail
 go_ret
 exact ⟨rfl,b2.trans (bb.mono (by simp;omega))⟩
theorem pwritten8_any (h:List Ev) (v:Value) (w:World) (hT:IsEvs w v h) (val:List UInt8) :
 Calls Tryz.prog 193 #[v,.string ⟨val.toArray⟩] w fun e w'=>e=.returned (.bool (fi (sameVal h val) h.length).isSome)∧Below w.heap.size w w':=by
 have b1:=(Below.refl w.heap.size w).alloc (Nat.le_refl _) (.cells #[.string ⟨val.toArray⟩] 9)
 have C:=pfirstV_any h v _ (hT.below b1) val _ (Boxed.new w 9 (.string ⟨val.toArray⟩))
 have HE:Hid (fi (fun k=>decide ((ev h k).1=3∧(ev h k).2.2.2=val)) h.length=fi (sameVal h val) h.length):=rfl
 rw [HE.out] at C
 cases hr:fi (sameVal h val) h.length with
 | none =>
   rw [hr] at C
   simp only [oI] at C
   clear hr HE hT
   go_enter Tryz.func193,Tryz.ntmps193
   go_wp2_with fail
   refine C.mono ?_
   rintro e w1 ⟨rfl,bb⟩
   go_wp2_with fail
   go_ret
   exact ⟨rfl,b1.trans (bb.mono (by simp))⟩
 | some r =>
   rw [hr] at C
   simp only [oI] at C
   have j:((r:Int) != -1)=true:=by rw [bne_iff_ne];omega
   have j':((r:Int)==-1)=false:=by rw [beq_eq_false_iff_ne];omega
   clear hr HE hT
   go_enter Tryz.func193,Tryz.ntmps193
   go_wp2_with fail
   refine C.mono ?_
   rintro e w1 ⟨rfl,bb⟩
   go_wp2_with fail
   go_ret
   exact ⟨rfl,b1.trans (bb.mono (by simp))⟩
end Go.Proofs.YtkkenfhlgpjmjaaGreatDoor
namespace Go.Proofs.YtkkenfhlgpjmjaaGreatDoor
set_option maxRecDepth 100000
open Go.RowKit Go.Maps Go.Sort
set_option linter.unusedVariables false
attribute [local go_sem] ba_size
theorem intsV_map (L:List Int):recV intV L=L.map (Value.int .i64):=by
 induction L with
 | nil=>rfl
 | cons x l ih=>rw [show x::l=[x]++l from rfl,recV_append,ih];rfl
theorem psortI_own {W:World} {B:Nat} {v:Value} {L:List Int} (h:W.ownsRow B 3 1 v L.length (recV intV L)) (hl:L.length≤17592186043904) :
 Calls Tryz.prog 172 #[v] W fun e W1=>e=.returned (.tuple #[])∧W.grownBy W1 v.ownBlock∧W1.ownsRow B 3 1 v L.length (recV intV (L.mergeSort fun x y=>decide (x≤y))):=by
 rcases h.2 with ⟨rfl,h0⟩ | ⟨g,cp,cur,rfl,hbase,hb,k1,k2,k3,k4⟩
 ·have hk0:L=[]:=List.length_eq_zero_iff.1 h0
  subst hk0
  refine (psortI_none none 0 W).mono ?_
  rintro e W1 ⟨rfl,rfl⟩
  exact ⟨rfl,World.grownBy.refl _ _,by rw [List.mergeSort_nil];exact World.ownsRow_nil _ _ _ _⟩
 ·rw [intsV_map] at k4
  have hH:=holds_of_blockI (ss:=L) hb (by simpa using k4)
  have hTS:=fun n os=>ownsRow_sortedI (w:=W) (n:=n) (os:=os) (ts:=L.mergeSort fun x y=>decide (x≤y)) (ss:=L) (by simp) hbase hb k1 k2 k3
  refine (psortI_any g 0 cp L W hH (Array.getElem?_eq_some_iff.1 hb).1 (by omega)).mono ?_
  rintro e w' ⟨r1,nn,os,r2⟩
  refine ⟨r1,by rw [r2];exact grownBy_sortedI _,?_⟩
  rw [r2,intsV_map]
  exact hTS nn os
theorem IsLfs.at {W:World} {v:Value} {L:List Lf} (h:IsRec 4 lifV W v L):∃ a cap,v=.slice a L.length cap∧L.length≤cap∧cap≤9223372036854775807 ∧
 Hid (∀ k (hk:k < L.length),∃ b off,a=some ⟨b,off,none⟩∧∀ V,Below W.heap.size W V→V.cell? ⟨b,off+k*4,none⟩=some (.int .i64 L[k].1)∧V.cell? ⟨b,off+k*4+1,none⟩=some (.int .i64 (L[k].2.1:Int))∧V.cell? ⟨b,off+k*4+2,none⟩=some (.int .i64 (L[k].2.2.1:Int))∧V.cell? ⟨b,off+k*4+3,none⟩=some (.bool L[k].2.2.2)):=by
 obtain ⟨a,cap,rfl,h1,h2,h3,HC⟩:=h.some_at
 refine ⟨a,cap,rfl,h1,h2,?_⟩
 intro k hk
 obtain ⟨b,off,rfl,hlt,hc⟩:=HC.out k hk
 refine ⟨b,off,rfl,fun V hV=>?_⟩
 exact ⟨(hV.cell (p:=⟨b,off+k*4,none⟩) hlt).trans (hc 0 _ rfl),(hV.cell (p:=⟨b,off+k*4+1,none⟩) hlt).trans (hc 1 _ rfl),(hV.cell (p:=⟨b,off+k*4+2,none⟩) hlt).trans (hc 2 _ rfl),(hV.cell (p:=⟨b,off+k*4+3,none⟩) hlt).trans (hc 3 _ rfl)⟩
set_option maxHeartbeats 4000000 in
theorem pnodes10_any (h:List Ev) (v:Value) (w:World) (hT:IsEvs w v h) (hG:∀ x∈h,goodE x) (hf:fewH h) :
 Calls Tryz.prog 142 #[v] w fun e w'=>InRow w (nodeL h) e w':=by
 have CL:=plives8_any h v w hT hG (by have:=hf.2;omega)
 have HS:=node_sorted h hf.1
 have hll:=lives_len h
 have hh:=hf.2
 obtain ⟨a,cap,rfl,_⟩:=hT.some_at
 obtain ⟨L,hL⟩:∃ L,livesL h=L:=⟨_,rfl⟩
 rw [hL] at CL HS hll
 have HSS:Hid ((cmF L).mergeSort (fun x y=>decide (x≤y))=nodeL h):=HS
 clear HS hL hf hT hG
 go_enter Tryz.func142,Tryz.ntmps142
 go_wp2_with fail
 refine CL.mono ?_
 rintro e1 w1 ⟨v1,rfl,b1,ho1⟩
 have hR:=IsRec.own lifV_len (by omega) ho1 (by omega)
 obtain ⟨a1,cap1,rfl,q1,q2,HQ⟩:=IsLfs.at hR
 clear hR CL ho1
 obtain ⟨n,hn⟩:∃ n,L.length=n:=⟨_,rfl⟩
 have HN:Hid (L.length=n):=hn
 rw [hn] at q1 hll ⊢
 clear hn
 go_wp2_with fail
 go_loopw [3,9] (fun r i wr=>∃ k c:Nat,k≤n∧c≤k∧i=.int .i64 k∧Hid ((cmF (L.take k)).length=c)∧Below w.heap.size w wr∧Hid (∀ V,Below wr.heap.size wr V→Below w1.heap.size w1 V)∧(∀ g,r.ownBlock=some g→w1.heap.size≤g)∧wr.ownsRow w.heap.size 3 1 r c (recV intV (cmF (L.take k)))) (fun _ i _=>n - (RowKit.intOf i).toNat)
 case atStart=>exact ⟨0,0,Nat.zero_le _,Nat.le_refl _,rfl,rfl,b1,fun V hV=>hV,fun g hg=>by simp [Value.ownBlock] at hg,World.ownsRow_nil _ _ _ _⟩
 case round =>
  obtain ⟨k,c,hk,hc,rfl,HL,hbw,HB,far,hrow⟩:=hrel
  obtain ⟨ad,cc,rfl⟩:=own_shape hrow
  by_cases hlt:k < n
  ·have hk1:Hid (k < L.length):=by show k < _;rw [HN.out];exact hlt
   have j0:(k:Int) < (n:Int):=by omega
   obtain ⟨bb,off,rfl,HC⟩:=HQ.out k hk1.out
   obtain ⟨x0,x1,x2,x3⟩:=HC wr (HB.out wr (Below.refl _ _))
   have hy:=cmF_yes L k hk1.out
   have hno:=cmF_no L k hk1.out
   obtain ⟨⟨y0,y1,y2,y3⟩,he⟩:∃ x,L[k]'hk1.out=x:=⟨_,rfl⟩
   rw [he] at x0 x1 x2 x3 hy hno
   simp only at x0 x1 x2 x3 hy hno
   clear he HC
   cases y3 with
   | true =>
     have HY:Hid (cmF (L.take (k+1))=cmF (L.take k)++[y0]):=hy rfl
     have XE:=SBox.new wr 73 #[.int .i64 y0,.int .i64 (y1:Int),.int .i64 (y2:Int),.bool true]
     have BE:=hbw.alloc hbw.size (.cells #[.int .i64 y0,.int .i64 (y1:Int),.int .i64 (y2:Int),.bool true] 73)
     have hrowE:=hrow.alloc (.cells #[.int .i64 y0,.int .i64 (y1:Int),.int .i64 (y2:Int),.bool true] 73)
     have t0:=XE.cell 0 _ rfl
     have t3:=XE.cell 3 _ rfl
     have s1:=(HB.out wr (Below.refl _ _)).size
     clear hy hno
     go_wp2_with fail
     refine (pbhI_any _ c _ y0 w.heap.size _ hrowE (by have:=BE.size;omega) (by omega)).mono ?_
     rintro e2 w3 ⟨r3,rfl,hown3,hg3,hat3⟩
     have B3:Below w.heap.size w w3:=BE.grown hg3 (by have:=BE.size;omega) (fun j hj=>own_far hrowE j hj)
     have far3:∀ g,r3.ownBlock=some g→w1.heap.size≤g:=fun g hg=>by
      rcases hat3 with e | ⟨g',e,e2⟩
      ·exact far g (by rw [← e];exact hg)
      ·rw [hg] at e;cases e;simp at e2;omega
     have HB3:Hid (∀ V,Below w3.heap.size w3 V→Below w1.heap.size w1 V):=fun V hV=>by
      have g1:=((HB.out wr (Below.refl _ _)).alloc s1 (.cells #[.int .i64 y0,.int .i64 (y1:Int),.int .i64 (y2:Int),.bool true] 73)).grown hg3 (by simp;omega) (fun j hj=>far j hj)
      exact bel_trans g1 hV
     go_wp2_with fail
     refine ⟨⟨k+1,c+1,by omega,by omega,by first | go_num | simp,by show _=_;rw [HY.out,List.length_append,HL.out];rfl,B3,HB3,far3,by rw [HY.out,recV_append];exact hown3⟩,by simp [RowKit.intOf];omega⟩
   | false =>
     have HY:Hid (cmF (L.take (k+1))=cmF (L.take k)):=hno rfl
     have XE:=SBox.new wr 73 #[.int .i64 y0,.int .i64 (y1:Int),.int .i64 (y2:Int),.bool false]
     have BE:=hbw.alloc hbw.size (.cells #[.int .i64 y0,.int .i64 (y1:Int),.int .i64 (y2:Int),.bool false] 73)
     have hrowE:=hrow.alloc (.cells #[.int .i64 y0,.int .i64 (y1:Int),.int .i64 (y2:Int),.bool false] 73)
     have t0:=XE.cell 0 _ rfl
     have t3:=XE.cell 3 _ rfl
     have s1:=(HB.out wr (Below.refl _ _)).size
     have HB3:Hid (∀ V,Below (wr.alloc (.cells #[.int .i64 y0,.int .i64 (y1:Int),.int .i64 (y2:Int),.bool false] 73)).heap.size (wr.alloc (.cells #[.int .i64 y0,.int .i64 (y1:Int),.int .i64 (y2:Int),.bool false] 73)) V→Below w1.heap.size w1 V):=fun V hV=>HB.out V (bel_trans ((Below.refl _ _).alloc (Nat.le_refl _) _) hV)
     clear hy hno
     go_wp2_with fail
     refine ⟨⟨k+1,c,by omega,by omega,by first | go_num | simp,by show _=_;rw [HY.out];exact HL.out,BE,HB3,far,by rw [HY.out];exact hrowE⟩,by simp [RowKit.intOf];omega⟩
  ·obtain rfl:k=n:=by omega
   have jq:¬ (k:Int) < (k:Int):=by omega
   have HT:Hid (cmF (L.take k)=cmF L):=by show _=_;rw [← HN.out,List.take_length]
   have hrow2:=hrow
   have hL2:=HL.out
   rw [HT.out] at hrow2 hL2
   rw [← hL2] at hrow2
   have C:=psortI_own hrow2 (by omega)
   rw [HSS.out,hL2] at C
   clear hrow2
   go_wp2_with fail
   refine C.mono ?_
   rintro e2 w3 ⟨rfl,hg,hT1⟩
   have hLen:(nodeL h).length=c:=by rw [← HSS.out,List.length_mergeSort,hL2]
   have B3:Below w.heap.size w w3:=hbw.grown hg hbw.size (fun j hj=>own_far hrow j hj)
   go_wp2_with fail
   go_ret
   refine ⟨_,rfl,B3,?_⟩
   rw [hLen]
   exact hT1
end Go.Proofs.YtkkenfhlgpjmjaaGreatDoor
namespace Go.Proofs.YtkkenfhlgpjmjaaGreatDoor
set_option maxRecDepth 100000
open Go.RowKit
set_option linter.unusedVariables false
attribute [local go_sem] ba_size ba_get wv_get wv_getE wv_set wv_size
theorem fg_sg (r i:Nat) (hr:r < 10) (hi:i < 16):fg (ords.getD r 0) i=sg r i:=by
 have h:∀ r,r < 10→∀ i,i < 16→fg (ords.getD r 0) i=sg r i:=by decide +kernel
 exact h r hr i hi
theorem ords_lt (r:Nat):ords.getD r 0 < 18446744073709551616:=by
 have h:∀ r,r < 10→ords.getD r 0 < 18446744073709551616:=by decide
 rcases Nat.lt_or_ge r 10 with h' | h'
 ·exact h r h'
 ·simp [List.getD,List.getElem?_eq_none (show ords.length≤r from h')]
theorem size8:(Tryz.prog.info? 194).map (·.size)=some 8:=by kernel_rfl
theorem size16:(Tryz.prog.info? 292).map (·.size)=some 16:=by kernel_rfl
set_option maxHeartbeats 2000000 in
theorem block_good (H:List Int) (hH:H.length=8) (B:List UInt8) (hB:B.length=64) (t:Nat) (ht:t < 18446744073709551616) (last:Bool) (w:World) (hG:G w) :
 Calls Tryz.prog 223 #[.agg (wv H),.string ⟨B.toArray⟩,.int .u64 t,.bool last] w fun e w'=>e=.returned (.tuple #[.agg (wv (blockL H B t last)),.int .i64 0])∧Below w.heap.size w w':=by
 have hHs:(wv H).size=8:=by rw [wv_size,hH]
 have hB1:((B.length:Int) != 64)=false:=by simp;omega
 go_enter Tryz.func223,Tryz.ntmps223
 go_wp2_with fail
 refine (words_any B hB _).mono ?_
 rintro e w1 ⟨rfl,hb1⟩
 have hs1:w.heap.size+2≤w1.heap.size:=by have:=hb1.size;simpa using this
 have hH1:Row w1 w.heap.size 194 H:=(hb1.block _ (by simp;omega)).trans (heap_alloc2_old w _ _)
 have hZ1:Row w1 (w.heap.size+1) 194 Z8:=(hb1.block _ (by simp)).trans (heap_alloc2_new w _ _)
 have hbw1:Below w.heap.size w w1:=(((Below.refl _ _).alloc (Nat.le_refl _) _).alloc (by simp) _).trans (hb1.mono (by simp;omega))
 go_upto_region 4 with (refine wpList_store_row rfl 292 _ _ rfl w1.heap.size (wv (mp B 16)) rfl rfl 292 (wv Z16) ?hg1 ?hi1 ?ho1 ?h11 ?_)
 case hg1=>exact heap_alloc_new w1 _
 case hi1=>rw [size16,wv_size,mp_len]
 case ho1=>rw [wv_size,wv_size,mp_len];rfl
 case h11=>exact wv_one _
 change Code.wp _ _ _ _ ((w1.alloc (.cells (wv Z16) 292)).setRow w1.heap.size (wv (mp B 16)))
 obtain ⟨w2,hw2⟩:∃ w2,(w1.alloc (.cells (wv Z16) 292)).setRow w1.heap.size (wv (mp B 16))=w2:=⟨_,rfl⟩
 have hM2:Row w2 w1.heap.size 292 (mp B 16):=by rw [← hw2];exact setRow_heap _ _ _ _ _ _ (heap_alloc_new w1 _)
 have hH2:Row w2 w.heap.size 194 H:=by rw [← hw2];exact (hH1.alloc _).setRow_other _ _ (by omega)
 have hZ2:Row w2 (w.heap.size+1) 194 Z8:=by rw [← hw2];exact (hZ1.alloc _).setRow_other _ _ (by omega)
 have hbw2:Below w.heap.size w w2:=by rw [← hw2];exact below_setRow (hbw1.alloc (by omega) _) (by omega) _
 have hs2:w1.heap.size < w2.heap.size:=hM2.lt
 have hG2:G w2:=hG.below hbw2 hG.size
 rw [hw2]
 clear hw2
 go_wp2_with (refine wpList_load_row rfl 194 _ rfl w.heap.size rfl 194 (wv H) (0,0) _ ?hg3 Tryz.underlying194 rfl ?hi3 ?_)
 case hg3=>exact hH2
 case hi3=>rw [size8,hHs]
 refine (spread_any H hH t ht last _ hG2).mono ?_
 rintro e w3 ⟨rfl,hb3⟩
 have hs3:=hb3.size
 have hM3:=hM2.below hb3
 have hH3:=hH2.below hb3
 have hZ3:=hZ2.below hb3
 have hbw3:Below w.heap.size w w3:=hbw2.trans (hb3.mono (by omega))
 have lV:=spreadL_len H t last
 obtain ⟨V0,hV0⟩:∃ V0,spreadL H t last=V0:=⟨_,rfl⟩
 have hbl:blockL H B t last=hx H (vr B V0 10) 8:=by unfold blockL;rw [hV0]
 rw [hV0] at lV ⊢
 go_upto_region 5 with (refine wpList_store_row rfl 292 _ _ rfl w3.heap.size (wv V0) rfl rfl 292 (wv Z16) ?hg4 ?hi4 ?ho4 ?h14 ?_)
 case hg4=>exact heap_alloc_new w3 _
 case hi4=>rw [size16,wv_size,lV]
 case ho4=>rw [wv_size,wv_size,lV];rfl
 case h14=>exact wv_one _
 change Code.wp _ _ _ _ ((w3.alloc (.cells (wv Z16) 292)).setRow w3.heap.size (wv V0))
 obtain ⟨w4,hw4⟩:∃ w4,(w3.alloc (.cells (wv Z16) 292)).setRow w3.heap.size (wv V0)=w4:=⟨_,rfl⟩
 have hV4:Row w4 w3.heap.size 292 V0:=by rw [← hw4];exact setRow_heap _ _ _ _ _ _ (heap_alloc_new w3 _)
 have hM4:Row w4 w1.heap.size 292 (mp B 16):=by rw [← hw4];exact (hM3.alloc _).setRow_other _ _ (by omega)
 have hH4:Row w4 w.heap.size 194 H:=by rw [← hw4];exact (hH3.alloc _).setRow_other _ _ (by omega)
 have hZ4:Row w4 (w.heap.size+1) 194 Z8:=by rw [← hw4];exact (hZ3.alloc _).setRow_other _ _ (by omega)
 have hbw4:Below w.heap.size w w4:=by rw [← hw4];exact below_setRow (hbw3.alloc (by omega) _) (by omega) _
 rw [hw4]
 clear hw4 hb1 hb3 hM3 hH3 hZ3 hM2 hH2 hZ2
 have hg3:=hG.size
 obtain ⟨gm,hgm⟩:∃ gm,w1.heap.size=gm:=⟨_,rfl⟩
 obtain ⟨gv,hgv⟩:∃ gv,w3.heap.size=gv:=⟨_,rfl⟩
 have n1:w.heap.size+2≤gm:=by omega
 have n2:gm < gv:=by omega
 rw [hgm] at hM4
 rw [hgv] at hV4
 simp only [hgm,hgv]
 clear hs1 hs2 hs3 hbw1 hbw2 hbw3 hgm hgv
 go_wp2_with fail
 go_loopw [26] (fun i wr=>∃ k:Nat,k≤10∧i=.int .i64 k∧Hid (Row wr gv 292 (vr B V0 k))∧Hid (Row wr gm 292 (mp B 16))∧Hid (Row wr w.heap.size 194 H)∧Hid (Row wr (w.heap.size+1) 194 Z8)∧Below w.heap.size w wr) (fun i _=>10 - (RowKit.intOf i).toNat)
 case atStart=>exact ⟨0,by omega,rfl,hV4,hM4,hH4,hZ4,hbw4⟩
 case round =>
  obtain ⟨k,hk,rfl,HV,HM,HH,HZ,hbw⟩:=hrel
  by_cases hlt:k < 10
  ·have i0:(k:Int) < 10:=by omega
   have hGr:G wr:=hG.below hbw hg3
   have co:=hGr.ord k hlt
   obtain ⟨o,ho⟩:∃ o,ords.getD k 0=o:=⟨_,rfl⟩
   have hol:o < 18446744073709551616:=by rw [← ho];exact ords_lt k
   rw [ho] at co
   have hR:=round_any o hol (mp B 16) (vr B V0 k) (mp_len B 16) (vr_len B V0 lV k) gm gv (by omega) wr hGr (by omega) HM.out HV.out
   go_wp2_with fail
   refine hR.mono ?_
   rintro e w5 ⟨rfl,hv5,ho5,hsz5,hb5⟩
   go_wp2_with fail
   go_roundw
   case rel =>
    refine ⟨k+1,by omega,by go_num,?_,(ho5 gm (by omega)).trans HM.out,(ho5 _ (by omega)).trans HH.out,(ho5 _ (by omega)).trans HZ.out,hbw.trans (hb5.mono (by omega))⟩
    show Row w5 gv 292 (rk (mp B 16) (vr B V0 k) (sg k) 8)
    rw [rk_congr (mp B 16) (vr B V0 k) (sg k) (fg o) 8 (fun i hi=>by rw [← ho,fg_sg k i hlt (by omega)])]
    exact hv5
   case measure=>simp [RowKit.intOf];omega
  ·obtain rfl:k=10:=by omega
   have lV10:=vr_len B V0 lV 10
   obtain ⟨V,hV⟩:∃ V,vr B V0 10=V:=⟨_,rfl⟩
   rw [hV] at HV lV10 hbl
   obtain ⟨w6,hw6⟩:∃ w6,wr=w6:=⟨_,rfl⟩
   rw [hw6] at HV HH HZ hbw
   rw [hw6]
   clear hw6 HM
   go_wp2_with fail
   go_loopw [35] (fun i wq=>∃ k:Nat,k≤8∧i=.int .i64 k∧Hid (Row wq gv 292 V)∧Hid (Row wq w.heap.size 194 (hx H V k))∧Hid (Row wq (w.heap.size+1) 194 Z8)∧Below w.heap.size w wq) (fun i _=>8 - (RowKit.intOf i).toNat)
   case atStart=>exact ⟨0,by omega,rfl,HV,by rw [hx_zero H V hH];exact HH,HZ,hbw⟩
   case round =>
    obtain ⟨k,hk,rfl,JV,JH,JZ,hbq⟩:=hrel
    by_cases hlt:k < 8
    ·have i0:(k:Int) < 8:=by omega
     have x0:IntKind.i64.wrap ((k:Int)+8)=(k:Int)+8:=by rw [IntKind.wrap_i64];omega
     have x1:((k:Int)+8).toNat=k+8:=by omega
     have x2:(k:Int)+8 < 16:=by omega
     have x3:(0:Int)≤(k:Int)+8:=by omega
     have x4:(k:Int) < 16:=by omega
     have lh:=hx_len H V k
     have c0:wr.cell? ⟨w.heap.size,k,none⟩=some (.int .u32 (at_ H k)):=by rw [JH.out.cell k (by omega),at_eq,hx_at H V k hlt]
     have c1:wr.cell? ⟨gv,k,none⟩=some (.int .u32 (at_ V k)):=by rw [JV.out.cell k (by omega),at_eq]
     have c2:wr.cell? ⟨gv,k+8,none⟩=some (.int .u32 (at_ V (k+8))):=by rw [JV.out.cell (k+8) (by omega),at_eq]
     have f0:=JH.out.frozen k
     go_wp2_with fail
     refine region_tail 13 (by kernel_rfl) (by kernel_rfl) ?_
     simp only [List.take_succ_cons,List.take_zero,List.drop_succ_cons,List.drop_zero]
     repeat still_step
     refine wpStill_nil ?_
     go_wp2_with fail
     refine ⟨?_,?measure2⟩
     (repeat apply Exists.intro)
     refine ⟨?rel2,rfl⟩
     case rel2 =>
      refine ⟨k+1,by omega,by go_num,(JV.out.other _ _ _ (by omega)).drew,?_,(JZ.out.other _ _ _ (by omega)).drew,(hbq.setCell (by simp) _).drew⟩
      rw [← hx_set H V k _ rfl]
      exact (JH.out.set k _).drew
     case measure2=>simp [RowKit.intOf];omega
    ·obtain rfl:k=8:=by omega
     have lh:=hx_len H V 8
     obtain ⟨R,hRR⟩:∃ R,hx H V 8=R:=⟨_,rfl⟩
     rw [hRR] at JH lh hbl
     go_wp2_with (first | (refine wpList_load_row rfl 194 _ rfl w.heap.size rfl 194 (wv R) (0,0) _ ?hg7 Tryz.underlying194 rfl ?hi7 ?_) | (refine wpList_store_row rfl 194 _ _ rfl (w.heap.size+1) (wv R) rfl rfl 194 (wv Z8) ?hg8 ?hi8 ?ho8 ?h18 ?_))
     case hg7=>exact JH.out
     case hi7=>rw [size8,wv_size,lh]
     case hg8=>exact JZ.out
     case hi8=>rw [size8,wv_size,lh]
     case ho8=>rw [wv_size,wv_size,lh];rfl
     case h18=>exact wv_one _
     refine bodyPost_ret (v:=.tuple #[.agg (wv R),.int .i64 0]) (results_row_tmp Tryz.results223 _ _ (w.heap.size+1) 194 (wv R) (0,0) _ rfl ?_ Tryz.underlying194 rfl ?_) rfl ⟨by first | rfl | rw [hbl],?_⟩
     ·exact setRow_heap _ _ _ _ _ _ JZ.out
     ·rw [size8,wv_size,lh]
     ·exact below_setRow hbq (by omega) _
end Go.Proofs.YtkkenfhlgpjmjaaGreatDoor
namespace Go.Proofs.YtkkenfhlgpjmjaaGreatDoor
set_option maxRecDepth 100000
open Go.RowKit
set_option linter.unusedVariables false
attribute [local go_sem] ba_size ba_get ba_extract take_drop_end wv_get wv_getE wv_set wv_size
theorem wv8 (H:List Int) (h:H.length=8):wv H=#[.int .u32 (at_ H 0),.int .u32 (at_ H 1),.int .u32 (at_ H 2),.int .u32 (at_ H 3),.int .u32 (at_ H 4),.int .u32 (at_ H 5),.int .u32 (at_ H 6),.int .u32 (at_ H 7)]:=by
 match H,h with
 | [a,b,c,d,e,f,g,i],_=>rfl
set_option maxHeartbeats 1000000 in
theorem fold_any (H:List Int) (hH:H.length=8) (S:List UInt8) (hS:S.length≤9223372036854775000) (w:World) (hG:G w) :
 Calls Tryz.prog 155 #[.agg (wv H),.string ⟨S.toArray⟩] w fun e w'=>e=.returned (.string ⟨(fl (foldL H S) 32).toArray⟩)∧Below w.heap.size w w':=by
 have hHs:(wv H).size=8:=by rw [wv_size,hH]
 have hg3:=hG.size
 go_enter Tryz.func155,Tryz.ntmps155
 go_wp2
 go_loopw [5] (fun i wr=>∃ k:Nat,Hid (k=0∨64*k < S.length)∧i=.int .i64 ((64*k:Nat):Int)∧Hid (Row wr w.heap.size 194 (fk H S k))∧Below w.heap.size w wr) (fun i _=>S.length - (RowKit.intOf i).toNat)
 case atStart=>exact ⟨0,Or.inl rfl,rfl,heap_alloc_new w _,(Below.refl _ _).alloc (Nat.le_refl _) _⟩
 case round =>
  obtain ⟨k,hk,rfl,HR,hbw⟩:=hrel
  have hGr:G wr:=hG.below hbw hg3
  have lk:=fk_len H S hH k
  have hlk:(wv (fk H S k)).size=8:=by rw [wv_size,lk]
  have hrow:wr.heap[w.heap.size]?=some (.cells (wv (fk H S k)) 194 (0,0)):=HR.out
  have hsz:(Tryz.prog.info? 194).map (·.size)=some (wv (fk H S k)).size:=by rw [size8,hlk]
  by_cases hlt:64*k+64 < S.length
  ·have i1:¬ (S.length:Int) - 64*(k:Int)≤64:=by omega
   have i2:(64:Int) < (S.length:Int) - 64*(k:Int):=by omega
   have lb:((S.drop (64*k)).take 64).length=64:=by simp;omega
   have e64:64*k+64 - 64*k=64:=by omega
   have hC:=block_good (fk H S k) lk ((S.drop (64*k)).take 64) lb (64*(k+1)) (by omega) false wr hGr
   rw [show ((64*(k+1):Nat):Int)=64*(k:Int)+64 by omega] at hC
   change Calls _ _ _ _ fun e w'=>e=.returned (.tuple #[.agg (wv (fk H S (k+1))),.int .i64 0])∧Below wr.heap.size wr w' at hC
   have lk1:=fk_len H S hH (k+1)
   obtain ⟨H1,hH1⟩:∃ H1,fk H S (k+1)=H1:=⟨_,rfl⟩
   rw [hH1] at hC lk1
   go_wp2_with (refine wpList_load_row rfl 194 _ rfl w.heap.size rfl 194 (wv (fk H S k)) (0,0) _ hrow Tryz.underlying194 rfl hsz ?_)
   refine hC.mono ?_
   rintro e w1 ⟨rfl,hb1⟩
   have hrow1:w1.heap[w.heap.size]?=some (.cells (wv (fk H S k)) 194 (0,0)):=(hb1.block _ HR.out.lt).trans hrow
   have hsz1:(Tryz.prog.info? 194).map (·.size)=some (wv H1).size:=by rw [size8,wv_size,lk1]
   go_wp2_with (refine wpList_store_row rfl 194 _ _ rfl w.heap.size (wv H1) rfl rfl 194 (wv (fk H S k)) hrow1 hsz1 (by rw [wv_size,wv_size,lk,lk1]) (wv_one _) ?_)
   try go_simp
   go_roundw
   case rel =>
    refine ⟨k+1,(Or.inr (by omega):_∨_),by first | go_num | omega,?_,below_setRow (hbw.trans (hb1.mono (by have:=HR.out.lt;omega))) (Nat.le_refl _) _⟩
    rw [hH1]
    exact setRow_heap _ _ _ _ _ _ hrow1
   case measure=>simp [RowKit.intOf];omega
  ·have i1:(S.length:Int) - 64*(k:Int)≤64:=by omega
   have i2:¬ (64:Int) < (S.length:Int) - 64*(k:Int):=by omega
   have j0:(0:Int)≤64*(k:Int):=by omega
   have j1:64*(k:Int)≤(S.length:Int):=by have:=hk.out;omega
   have j2:(64*(k:Int)).toNat=64*k:=by omega
   have j3:IntKind.u64.wrap (S.length:Int)=S.length:=by rw [IntKind.wrap_u64];omega
   have hnb:nb S=k:=nb_of S k hk.out (by omega)
   have ld:(S.drop (64*k)).length≤64:=by simp;omega
   have hfold:foldL H S=blockL (fk H S k) (padL (S.drop (64*k))) S.length true:=by unfold foldL;rw [hnb]
   have lp:=padL_len _ ld
   have lr:=foldL_len H S
   go_wp2_with fail
   refine wp_region_any (by kernel_rfl) ?_
   change wpAny _ _ _ _ _ _ _ (World.drew _)
   refine wpAny_take (i:=1) (v:=.string ⟨S.toArray⟩) rfl (by kernel_rfl) (by kernel_rfl) (by kernel_rfl) (fun _ _ _ h=>h) (Or.inl ⟨by rfl,fun w=>by go_simp⟩) ?_
   refine wpAny_take (i:=2) (v:=.int .i64 (64*(k:Int))) rfl (by kernel_rfl) (by kernel_rfl) (by kernel_rfl) (fun _ _ _ h=>h) (Or.inl ⟨by rfl,fun w=>by go_simp⟩) ?_
   refine wpAny_take (i:=3) (v:=.string ⟨(S.drop (64*k)).toArray⟩) rfl (by kernel_rfl) (by kernel_rfl) (by kernel_rfl) (fun _ _ _ h=>h) (Or.inl ⟨by rfl,fun w=>by go_simp⟩) ?_
   refine wpAny_take (i:=5) (v:=.string ⟨S.toArray⟩) rfl (by kernel_rfl) (by kernel_rfl) (by kernel_rfl) (fun _ _ _ h=>h) (Or.inl ⟨by rfl,fun w=>by go_simp⟩) ?_
   refine wpAny_take (i:=6) (v:=.int .i64 S.length) rfl (by kernel_rfl) (by kernel_rfl) (by kernel_rfl) (fun _ _ _ h=>h) (Or.inl ⟨by rfl,fun w=>by go_simp⟩) ?_
   refine wpAny_take (i:=7) (v:=.int .u64 S.length) rfl (by kernel_rfl) (by kernel_rfl) (by kernel_rfl) (fun _ _ _ h=>h) (Or.inl ⟨by rfl,fun w=>by go_simp⟩) ?_
   obtain ⟨R,hR⟩:∃ R,foldL H S=R:=⟨_,rfl⟩
   have hC:∀ w1,G w1→Calls Tryz.prog 223 #[.agg #[.int .u32 (at_ (fk H S k) 0),.int .u32 (at_ (fk H S k) 1),.int .u32 (at_ (fk H S k) 2),.int .u32 (at_ (fk H S k) 3),.int .u32 (at_ (fk H S k) 4),.int .u32 (at_ (fk H S k) 5),.int .u32 (at_ (fk H S k) 6),.int .u32 (at_ (fk H S k) 7)],.string ⟨(padL (S.drop (64*k))).toArray⟩,.int .u64 S.length,.bool true] w1 fun e w'=>e=.returned (.tuple #[.agg (wv R),.int .i64 0])∧Below w1.heap.size w1 w':=fun w1 h1=>by
    have h:=block_good (fk H S k) lk (padL (S.drop (64*k))) lp S.length (by omega) true w1 h1
    rw [wv8 (fk H S k) lk,← hfold,hR] at h
    exact h
   rw [hR] at lr
   have hszR:(Tryz.prog.info? 194).map (·.size)=some (wv R).size:=by rw [size8,wv_size,lr]
   have c0:wr.cell? ⟨w.heap.size,0,none⟩=some (.int .u32 (at_ (fk H S k) 0)):=by rw [HR.out.cell 0 (by omega),at_eq]
   have c1:wr.cell? ⟨w.heap.size,1,none⟩=some (.int .u32 (at_ (fk H S k) 1)):=by rw [HR.out.cell 1 (by omega),at_eq]
   have c2:wr.cell? ⟨w.heap.size,2,none⟩=some (.int .u32 (at_ (fk H S k) 2)):=by rw [HR.out.cell 2 (by omega),at_eq]
   have c3:wr.cell? ⟨w.heap.size,3,none⟩=some (.int .u32 (at_ (fk H S k) 3)):=by rw [HR.out.cell 3 (by omega),at_eq]
   have c4:wr.cell? ⟨w.heap.size,4,none⟩=some (.int .u32 (at_ (fk H S k) 4)):=by rw [HR.out.cell 4 (by omega),at_eq]
   have c5:wr.cell? ⟨w.heap.size,5,none⟩=some (.int .u32 (at_ (fk H S k) 5)):=by rw [HR.out.cell 5 (by omega),at_eq]
   have c6:wr.cell? ⟨w.heap.size,6,none⟩=some (.int .u32 (at_ (fk H S k) 6)):=by rw [HR.out.cell 6 (by omega),at_eq]
   have c7:wr.cell? ⟨w.heap.size,7,none⟩=some (.int .u32 (at_ (fk H S k) 7)):=by rw [HR.out.cell 7 (by omega),at_eq]
   refine wpAny_ready (rs:=[0,4]) (by kernel_rfl) (by simp) ?_
   refine AllReady.cons rfl (fun K hK=>?_) ?_
   ·go_simp
    refine hK _ _ ?_
    clear hK K
    refine wpAny_ready (rs:=[4]) (by kernel_rfl) (by simp) ?_
    refine AllReady.cons rfl (fun K hK=>?_) AllReady.nil
    go_simp
    refine (fill_any _ ld _).mono ?_
    rintro e w1 ⟨rfl,hb1⟩
    have HR1:Row w1 w.heap.size 194 (fk H S k):=(hb1.block _ HR.out.lt).trans hrow
    have hbw1:Below w.heap.size w w1:=hbw.drew.trans (hb1.mono (by have:=HR.out.lt;show w.heap.size≤wr.heap.size;omega))
    have hG1:G w1:=hG.below hbw1 hg3
    refine hK _ _ ?_
    clear hK K
    refine wpAny_ready (rs:=[8]) (by kernel_rfl) (by simp) ?_
    refine AllReady.cons rfl (fun K hK=>?_) AllReady.nil
    go_simp
    refine (hC w1 hG1).mono ?_
    rintro e w2 ⟨rfl,hb2⟩
    have hrow2:w2.heap[w.heap.size]?=some (.cells (wv (fk H S k)) 194 (0,0)):=(hb2.block _ HR1.lt).trans HR1
    refine hK _ _ ?_
    clear hK K
    refine wpAny_ready (rs:=[9]) (by kernel_rfl) (by simp) ?_
    refine AllReady.cons rfl (fun K hK=>?_) AllReady.nil
    go_simp
    refine hK _ _ ?_
    clear hK K
    refine wpAny_take (i:=11) (v:=.int .i64 0) rfl (by kernel_rfl) (by kernel_rfl) (by kernel_rfl) (fun _ _ _ h=>h) (Or.inl ⟨by rfl,fun w=>by go_simp⟩) ?_
    refine wpAny_ready (rs:=[10]) (by kernel_rfl) (by simp) ?_
    refine AllReady.cons rfl (fun K hK=>?_) AllReady.nil
    go_simp
    refine hK _ _ ?_
    clear hK K
    refine any_seqI [12] [_] _ _ _ rfl (by kernel_rfl) ?_
    refine wpList_store_row rfl 194 _ _ rfl w.heap.size (wv R) rfl rfl 194 (wv (fk H S k)) hrow2 hszR (by rw [wv_size,wv_size,lk,lr]) (wv_one _) ?_
    have hrow3:(w2.setRow w.heap.size (wv R)).heap[w.heap.size]?=some (.cells (wv R) 194 (0,0)):=setRow_heap _ _ _ _ _ _ hrow2
    have hb3:Below w.heap.size w (w2.setRow w.heap.size (wv R)):=below_setRow (hbw1.trans (hb2.mono (by have:=HR1.lt;omega))) (Nat.le_refl _) _
    obtain ⟨w3,hw3⟩:∃ w3,w2.setRow w.heap.size (wv R)=w3:=⟨_,rfl⟩
    rw [hw3] at hrow3 hb3 ⊢
    go_wp2_with (refine wpList_load_row rfl 194 _ rfl w.heap.size rfl 194 (wv R) (0,0) _ hrow3 Tryz.underlying194 rfl hszR ?_)
    refine (flat_any R lr _).mono ?_
    rintro e w4 ⟨rfl,hb4⟩
    go_wp2_with fail
    go_ret
    exact ⟨by rw [hR];rfl,hb3.trans (hb4.mono hb3.size)⟩
   ·refine AllReady.cons rfl (fun K hK=>?_) AllReady.nil
    go_simp
    refine (fill_any _ ld _).mono ?_
    rintro e w1 ⟨rfl,hb1⟩
    have HR1:Row w1 w.heap.size 194 (fk H S k):=(hb1.block _ HR.out.lt).trans hrow
    have hbw1:Below w.heap.size w w1:=hbw.drew.trans (hb1.mono (by have:=HR.out.lt;show w.heap.size≤wr.heap.size;omega))
    have hG1:G w1:=hG.below hbw1 hg3
    have d0:w1.cell? ⟨w.heap.size,0,none⟩=some (.int .u32 (at_ (fk H S k) 0)):=by rw [HR1.cell 0 (by omega),at_eq]
    have d1:w1.cell? ⟨w.heap.size,1,none⟩=some (.int .u32 (at_ (fk H S k) 1)):=by rw [HR1.cell 1 (by omega),at_eq]
    have d2:w1.cell? ⟨w.heap.size,2,none⟩=some (.int .u32 (at_ (fk H S k) 2)):=by rw [HR1.cell 2 (by omega),at_eq]
    have d3:w1.cell? ⟨w.heap.size,3,none⟩=some (.int .u32 (at_ (fk H S k) 3)):=by rw [HR1.cell 3 (by omega),at_eq]
    have d4:w1.cell? ⟨w.heap.size,4,none⟩=some (.int .u32 (at_ (fk H S k) 4)):=by rw [HR1.cell 4 (by omega),at_eq]
    have d5:w1.cell? ⟨w.heap.size,5,none⟩=some (.int .u32 (at_ (fk H S k) 5)):=by rw [HR1.cell 5 (by omega),at_eq]
    have d6:w1.cell? ⟨w.heap.size,6,none⟩=some (.int .u32 (at_ (fk H S k) 6)):=by rw [HR1.cell 6 (by omega),at_eq]
    have d7:w1.cell? ⟨w.heap.size,7,none⟩=some (.int .u32 (at_ (fk H S k) 7)):=by rw [HR1.cell 7 (by omega),at_eq]
    refine hK _ _ ?_
    clear hK K
    refine wpAny_ready (rs:=[0]) (by kernel_rfl) (by simp) ?_
    refine AllReady.cons rfl (fun K hK=>?_) AllReady.nil
    go_simp
    refine hK _ _ ?_
    clear hK K
    refine wpAny_ready (rs:=[8]) (by kernel_rfl) (by simp) ?_
    refine AllReady.cons rfl (fun K hK=>?_) AllReady.nil
    go_simp
    refine (hC w1 hG1).mono ?_
    rintro e w2 ⟨rfl,hb2⟩
    have hrow2:w2.heap[w.heap.size]?=some (.cells (wv (fk H S k)) 194 (0,0)):=(hb2.block _ HR1.lt).trans HR1
    refine hK _ _ ?_
    clear hK K
    refine wpAny_ready (rs:=[9]) (by kernel_rfl) (by simp) ?_
    refine AllReady.cons rfl (fun K hK=>?_) AllReady.nil
    go_simp
    refine hK _ _ ?_
    clear hK K
    refine wpAny_take (i:=11) (v:=.int .i64 0) rfl (by kernel_rfl) (by kernel_rfl) (by kernel_rfl) (fun _ _ _ h=>h) (Or.inl ⟨by rfl,fun w=>by go_simp⟩) ?_
    refine wpAny_ready (rs:=[10]) (by kernel_rfl) (by simp) ?_
    refine AllReady.cons rfl (fun K hK=>?_) AllReady.nil
    go_simp
    refine hK _ _ ?_
    clear hK K
    refine any_seqI [12] [_] _ _ _ rfl (by kernel_rfl) ?_
    refine wpList_store_row rfl 194 _ _ rfl w.heap.size (wv R) rfl rfl 194 (wv (fk H S k)) hrow2 hszR (by rw [wv_size,wv_size,lk,lr]) (wv_one _) ?_
    have hrow3:(w2.setRow w.heap.size (wv R)).heap[w.heap.size]?=some (.cells (wv R) 194 (0,0)):=setRow_heap _ _ _ _ _ _ hrow2
    have hb3:Below w.heap.size w (w2.setRow w.heap.size (wv R)):=below_setRow (hbw1.trans (hb2.mono (by have:=HR1.lt;omega))) (Nat.le_refl _) _
    obtain ⟨w3,hw3⟩:∃ w3,w2.setRow w.heap.size (wv R)=w3:=⟨_,rfl⟩
    rw [hw3] at hrow3 hb3 ⊢
    go_wp2_with (refine wpList_load_row rfl 194 _ rfl w.heap.size rfl 194 (wv R) (0,0) _ hrow3 Tryz.underlying194 rfl hszR ?_)
    refine (flat_any R lr _).mono ?_
    rintro e w4 ⟨rfl,hb4⟩
    go_wp2_with fail
    go_ret
    exact ⟨by rw [hR];rfl,hb3.trans (hb4.mono hb3.size)⟩
def sumL (S:List UInt8):List UInt8:=fl (foldL (startL 0) S) 32
end Go.Proofs.YtkkenfhlgpjmjaaGreatDoor
namespace Go.Proofs.YtkkenfhlgpjmjaaGreatDoor
set_option maxRecDepth 100000
open Go.RowKit
set_option linter.unusedVariables false
attribute [local go_sem] ba_size ba_get ba_extract ba_append take_drop_end wv_get wv_getE wv_set wv_size
def keyL (K S:List UInt8):List UInt8:=fl (foldL (startL K.length) (padL K++S)) 32
theorem ne_empty (l:List UInt8) (h:1≤l.length):l.isEmpty=false:=by
 cases l with
 | nil=>simp at h
 | cons _ _=>rfl
set_option maxHeartbeats 1000000 in
theorem keyed_none (S:List UInt8) (w:World) :
 Calls Tryz.prog 288 #[.string ⟨#[]⟩,.string ⟨S.toArray⟩] w fun e w'=>e=.returned (.tuple #[.string ⟨#[]⟩,.int .i64 1])∧Below w.heap.size w w':=by
 go_enter Tryz.func288,Tryz.ntmps288
 go_wp2_with fail
 go_ret2
 exact ⟨rfl,Below.refl _ _⟩
set_option maxHeartbeats 1000000 in
theorem keyed_long (K S:List UInt8) (hK:32 < K.length) (w:World) :
 Calls Tryz.prog 288 #[.string ⟨K.toArray⟩,.string ⟨S.toArray⟩] w fun e w'=>e=.returned (.tuple #[.string ⟨#[]⟩,.int .i64 1])∧Below w.heap.size w w':=by
 have hn1:=ne_empty K (by omega)
 have hs:=fun w1=>start_bad (K.length:Int) (Or.inr (by omega)) w1
 have hsz:(Tryz.prog.info? 194).map (·.size)=some (wv Z8).size:=by rw [size8,wv_size];rfl
 go_enter Tryz.func288,Tryz.ntmps288
 go_wp2_with fail
 refine (hs w).mono ?_
 rintro e w1 ⟨rfl,hb1⟩
 go_wp2_with (refine wpList_store_row rfl 194 _ _ rfl w1.heap.size (wv Z8) rfl rfl 194 (wv Z8) (heap_alloc_new w1 _) hsz rfl (wv_one _) ?_)
 go_ret2
 exact ⟨rfl,below_setRow (hb1.alloc hb1.size _) hb1.size _⟩
set_option maxHeartbeats 2000000 in
theorem keyed_good (K S:List UInt8) (h1:1≤K.length) (h32:K.length≤32) (hS:S.length≤9223372036854774000) (w:World) (hG:G w) :
 Calls Tryz.prog 288 #[.string ⟨K.toArray⟩,.string ⟨S.toArray⟩] w fun e w'=>e=.returned (.tuple #[.string ⟨(keyL K S).toArray⟩,.int .i64 0])∧Below w.heap.size w w':=by
 have hg3:=hG.size
 have hn1:=ne_empty K h1
 have hK64:K.length≤64:=by omega
 have lsum:64+S.length≤9223372036854775807:=by omega
 have hs:=start_good (K.length:Int) (by omega) (by omega) w hG
 have lp:=padL_len K hK64
 have hF0:=fun H lH w1 h=>fold_any H lH (padL K++S) (by rw [List.length_append];omega) w1 h
 have lH:(startL K.length).length=8:=rfl
 have hkey:keyL K S=fl (foldL (startL K.length) (padL K++S)) 32:=rfl
 obtain ⟨H,hH⟩:∃ H,startL K.length=H:=⟨_,rfl⟩
 rw [hH] at hs lH hkey
 have hF:∀ w1,G w1→Calls Tryz.prog 155 #[.agg #[.int .u32 (at_ H 0),.int .u32 (at_ H 1),.int .u32 (at_ H 2),.int .u32 (at_ H 3),.int .u32 (at_ H 4),.int .u32 (at_ H 5),.int .u32 (at_ H 6),.int .u32 (at_ H 7)],.string ⟨(padL K++S).toArray⟩] w1 fun e w'=>e=.returned (.string ⟨(keyL K S).toArray⟩)∧Below w1.heap.size w1 w':=fun w1 h=>by
  have h':=hF0 H lH w1 h
  rw [wv8 H lH,← hkey] at h'
  exact h'
 clear hF0 hkey hH
 obtain ⟨D,hD⟩:∃ D,keyL K S=D:=⟨_,rfl⟩
 rw [hD] at hF ⊢
 clear hD
 have hsz:(Tryz.prog.info? 194).map (·.size)=some (wv H).size:=by rw [size8,wv_size,lH]
 go_enter Tryz.func288,Tryz.ntmps288
 go_wp2_with fail
 refine hs.mono ?_
 rintro e w1 ⟨rfl,hb1⟩
 go_upto_region 4 with (refine wpList_store_row rfl 194 _ _ rfl w1.heap.size (wv H) rfl rfl 194 (wv Z8) (heap_alloc_new w1 _) hsz (by rw [wv_size,wv_size,lH];rfl) (wv_one _) ?_)
 change Code.wp _ _ _ _ ((w1.alloc (.cells (wv Z8) 194)).setRow w1.heap.size (wv H))
 obtain ⟨w3,hw3⟩:∃ w3,(w1.alloc (.cells (wv Z8) 194)).setRow w1.heap.size (wv H)=w3:=⟨_,rfl⟩
 have hR3:Row w3 w1.heap.size 194 H:=by rw [← hw3];exact setRow_heap _ _ _ _ _ _ (heap_alloc_new w1 _)
 have hbw3:Below w.heap.size w w3:=by rw [← hw3];exact below_setRow (hb1.alloc hb1.size _) hb1.size _
 rw [hw3]
 clear hw3
 have hgs:=hb1.size
 obtain ⟨gh,hgh⟩:∃ gh,w1.heap.size=gh:=⟨_,rfl⟩
 rw [hgh] at hR3 hgs
 simp only [hgh]
 clear hb1 hgh hs
 go_wp2_with fail
 refine wp_region_any (by kernel_rfl) ?_
 change wpAny _ _ _ _ _ _ _ (World.drew _)
 refine wpAny_take (i:=1) (v:=.string ⟨K.toArray⟩) rfl (by kernel_rfl) (by kernel_rfl) (by kernel_rfl) (fun _ _ _ h=>h) (Or.inl ⟨by rfl,fun w=>by go_simp⟩) ?_
 refine wpAny_take (i:=3) (v:=.string ⟨S.toArray⟩) rfl (by kernel_rfl) (by kernel_rfl) (by kernel_rfl) (fun _ _ _ h=>h) (Or.inl ⟨by rfl,fun w=>by go_simp⟩) ?_
 have c0:(w3).cell? ⟨gh,0,none⟩=some (.int .u32 (at_ H 0)):=by rw [(hR3).cell 0 (by omega),at_eq]
 have c1:(w3).cell? ⟨gh,1,none⟩=some (.int .u32 (at_ H 1)):=by rw [(hR3).cell 1 (by omega),at_eq]
 have c2:(w3).cell? ⟨gh,2,none⟩=some (.int .u32 (at_ H 2)):=by rw [(hR3).cell 2 (by omega),at_eq]
 have c3:(w3).cell? ⟨gh,3,none⟩=some (.int .u32 (at_ H 3)):=by rw [(hR3).cell 3 (by omega),at_eq]
 have c4:(w3).cell? ⟨gh,4,none⟩=some (.int .u32 (at_ H 4)):=by rw [(hR3).cell 4 (by omega),at_eq]
 have c5:(w3).cell? ⟨gh,5,none⟩=some (.int .u32 (at_ H 5)):=by rw [(hR3).cell 5 (by omega),at_eq]
 have c6:(w3).cell? ⟨gh,6,none⟩=some (.int .u32 (at_ H 6)):=by rw [(hR3).cell 6 (by omega),at_eq]
 have c7:(w3).cell? ⟨gh,7,none⟩=some (.int .u32 (at_ H 7)):=by rw [(hR3).cell 7 (by omega),at_eq]
 refine wpAny_ready (rs:=[0,2]) (by kernel_rfl) (by simp) ?_
 refine AllReady.cons rfl (fun K' hK=>?_) ?_
 ·go_simp
  refine hK _ _ ?_
  clear hK K'
  refine wpAny_ready (rs:=[2]) (by kernel_rfl) (by simp) ?_
  refine AllReady.cons rfl (fun K' hK=>?_) AllReady.nil
  go_simp
  refine (fill_any K hK64 _).mono ?_
  rintro e w4 ⟨rfl,hb4⟩
  have hR4:Row w4 gh 194 H:=(hb4.block _ (Row.lt hR3)).trans hR3
  have hbw4:Below w.heap.size w w4:=hbw3.drew.trans (hb4.mono hbw3.size)
  have hG4:G w4:=hG.below hbw4 hg3
  refine hK _ _ ?_
  clear hK K'
  refine wpAny_take (i:=4) (v:=.string ⟨(padL K++S).toArray⟩) rfl (by kernel_rfl) (by kernel_rfl) (by kernel_rfl) (fun _ _ _ h=>h) (Or.inl ⟨by rfl,fun w=>by go_simp⟩) ?_
  refine wpAny_ready (rs:=[5]) (by kernel_rfl) (by simp) ?_
  refine AllReady.cons rfl (fun K' hK=>?_) AllReady.nil
  go_simp
  refine (hF w4 hG4).mono ?_
  rintro e w5 ⟨rfl,hb5⟩
  refine hK _ _ ?_
  clear hK K'
  refine any_seqI [6,7] [_,_] _ _ _ rfl (by kernel_rfl) ?_
  go_wp2_with fail
  go_ret2
  exact ⟨rfl,bel_trans hbw4 hb5⟩
 ·refine AllReady.cons rfl (fun K' hK=>?_) AllReady.nil
  go_simp
  refine (fill_any K hK64 _).mono ?_
  rintro e w4 ⟨rfl,hb4⟩
  have hR4:Row w4 gh 194 H:=(hb4.block _ (Row.lt hR3)).trans hR3
  have hbw4:Below w.heap.size w w4:=hbw3.drew.trans (hb4.mono hbw3.size)
  have hG4:G w4:=hG.below hbw4 hg3
  have d0:(w4).cell? ⟨gh,0,none⟩=some (.int .u32 (at_ H 0)):=by rw [(hR4).cell 0 (by omega),at_eq]
  have d1:(w4).cell? ⟨gh,1,none⟩=some (.int .u32 (at_ H 1)):=by rw [(hR4).cell 1 (by omega),at_eq]
  have d2:(w4).cell? ⟨gh,2,none⟩=some (.int .u32 (at_ H 2)):=by rw [(hR4).cell 2 (by omega),at_eq]
  have d3:(w4).cell? ⟨gh,3,none⟩=some (.int .u32 (at_ H 3)):=by rw [(hR4).cell 3 (by omega),at_eq]
  have d4:(w4).cell? ⟨gh,4,none⟩=some (.int .u32 (at_ H 4)):=by rw [(hR4).cell 4 (by omega),at_eq]
  have d5:(w4).cell? ⟨gh,5,none⟩=some (.int .u32 (at_ H 5)):=by rw [(hR4).cell 5 (by omega),at_eq]
  have d6:(w4).cell? ⟨gh,6,none⟩=some (.int .u32 (at_ H 6)):=by rw [(hR4).cell 6 (by omega),at_eq]
  have d7:(w4).cell? ⟨gh,7,none⟩=some (.int .u32 (at_ H 7)):=by rw [(hR4).cell 7 (by omega),at_eq]
  refine hK _ _ ?_
  clear hK K'
  refine wpAny_take (i:=4) (v:=.string ⟨(padL K++S).toArray⟩) rfl (by kernel_rfl) (by kernel_rfl) (by kernel_rfl) (fun _ _ _ h=>h) (Or.inl ⟨by rfl,fun w=>by go_simp⟩) ?_
  refine wpAny_ready (rs:=[0]) (by kernel_rfl) (by simp) ?_
  refine AllReady.cons rfl (fun K' hK=>?_) AllReady.nil
  go_simp
  refine hK _ _ ?_
  clear hK K'
  refine wpAny_ready (rs:=[5]) (by kernel_rfl) (by simp) ?_
  refine AllReady.cons rfl (fun K' hK=>?_) AllReady.nil
  go_simp
  refine (hF w4 hG4).mono ?_
  rintro e w5 ⟨rfl,hb5⟩
  refine hK _ _ ?_
  clear hK K'
  refine any_seqI [6,7] [_,_] _ _ _ rfl (by kernel_rfl) ?_
  go_wp2_with fail
  go_ret2
  exact ⟨rfl,bel_trans hbw4 hb5⟩
end Go.Proofs.YtkkenfhlgpjmjaaGreatDoor
namespace Go.Proofs.YtkkenfhlgpjmjaaGreatDoor
set_option maxRecDepth 100000
set_option linter.unusedVariables false
def keyP (k s:List UInt8):List UInt8 × Nat:=if mayK k then (keyL k s,0) else ([],1)
def keyTagP (s k:List UInt8):List UInt8 × Nat:=keyP s (5::k)
def valTagP (s v:List UInt8):List UInt8 × Nat:=if mayK s then (tagV (keyL s) v,0) else ([],1)
def oneP (s:List UInt8) (x:Ev):Ev × Nat:=if mayE x∧mayK s then (tagE (keyL s) x,0) else ((0,0,[],[]),1)
def allP (s:List UInt8) (h:List Ev):List Ev × Nat:=if 256 < h.length then ([],4) else if allMay h∧(mayK s∨h=[]) then (tagsL (keyL s) h,0) else ([],1)
theorem oneP_ok (s:List UInt8) (x:Ev) (h1:mayE x) (h2:mayK s):oneP s x=(tagE (keyL s) x,0):=by unfold oneP;rw [if_pos ⟨h1,h2⟩]
theorem oneP_no (s:List UInt8) (x:Ev) (h:¬ (mayE x∧mayK s)):oneP s x=((0,0,[],[]),1):=by unfold oneP;rw [if_neg h]
theorem allP_big (s:List UInt8) (h:List Ev) (hl:256 < h.length):allP s h=([],4):=by unfold allP;rw [if_pos hl]
theorem allP_bad (s:List UInt8) (h:List Ev) (hl:¬ 256 < h.length) (k:Nat) (hk:k < h.length) (hm:¬ (mayE h[k]∧mayK s)):allP s h=([],1):=by
 unfold allP
 rw [if_neg hl,if_neg]
 rintro ⟨ha,hs⟩
 rcases hs with hs | hs
 ·exact hm ⟨ha _ (List.getElem_mem hk),hs⟩
 ·subst hs;simp at hk
theorem allP_ok (s:List UInt8) (h:List Ev) (hl:¬ 256 < h.length) (ha:allMay h) (hs:mayK s∨h=[]):allP s h=(tagsL (keyL s) h,0):=by
 unfold allP
 rw [if_neg hl,if_pos ⟨ha,hs⟩]
theorem tagsL_next (kd:List UInt8→List UInt8) (h:List Ev) (k:Nat) (hk:k < h.length):tagsL kd (h.take (k+1))=tagsL kd (h.take k)++[tagE kd h[k]]:=by
 unfold tagsL
 rw [List.take_succ_eq_append_getElem hk,List.map_append]
 rfl
open Go.RowKit
attribute [local go_sem] ba_size ba_append
theorem keyed7_any (k s:List UInt8) (hs:s.length≤9223372036854774000) (w:World) (hG:G w) :
 Calls Tryz.prog 288 #[.string ⟨k.toArray⟩,.string ⟨s.toArray⟩] w fun e w'=>e=.returned (.tuple #[.string ⟨(keyP k s).1.toArray⟩,.int .i64 ((keyP k s).2:Int)])∧Below w.heap.size w w':=by
 unfold keyP
 by_cases h:mayK k
 ·rw [if_pos h];exact keyed_good k s h.1 h.2 hs w hG
 ·rw [if_neg h]
  by_cases h1:32 < k.length
  ·exact keyed_long k s h1 w
  ·have h0:k.length=0:=by unfold mayK at h;omega
   obtain rfl:=List.length_eq_zero_iff.1 h0
   exact keyed_none s w
theorem pinput5 (t:List UInt8) (ht:t.length≤9223372036854770000) (w:World) :
 Calls Tryz.prog 262 #[.int .u8 5,.string ⟨t.toArray⟩] w fun e w'=>e=.returned (.string ⟨(5::t).toArray⟩)∧Below w.heap.size w w':=by
 have c1:=conv1
 have z1:1+t.length≤9223372036854775807:=by omega
 go_enter Tryz.func262,Tryz.ntmps262
 go_wp2_with fail
 go_ret
 exact ⟨rfl,(Below.refl _ _).alloc (Nat.le_refl _) _⟩
theorem pinput6 (t:List UInt8) (ht:t.length≤9223372036854770000) (w:World) :
 Calls Tryz.prog 262 #[.int .u8 6,.string ⟨t.toArray⟩] w fun e w'=>e=.returned (.string ⟨(6::t).toArray⟩)∧Below w.heap.size w w':=by
 have c1:=conv1
 have z1:1+t.length≤9223372036854775807:=by omega
 go_enter Tryz.func262,Tryz.ntmps262
 go_wp2_with fail
 go_ret
 exact ⟨rfl,(Below.refl _ _).alloc (Nat.le_refl _) _⟩
abbrev inF (m:Int):Value:=.func (.func 262) #[.int .u8 m] #[]
theorem ptag5 (s t:List UInt8) (ht:t.length≤9223372036854770000) (w:World) (hG:G w) :
 Calls Tryz.prog 261 #[.string ⟨s.toArray⟩,.string ⟨t.toArray⟩,inF 5] w fun e w'=>e=.returned (.tuple #[.string ⟨(keyP s (5::t)).1.toArray⟩,.int .i64 ((keyP s (5::t)).2:Int)])∧Below w.heap.size w w':=by
 have A:=fun W=>pinput5 t ht W
 have C:=fun W g=>keyed7_any s (5::t) (by simp;omega) W g
 obtain ⟨⟨x,y⟩,hx⟩:∃ x,keyP s (5::t)=x:=⟨_,rfl⟩
 rw [hx] at C ⊢
 clear hx
 go_enter Tryz.func261,Tryz.ntmps261
 go_wp2_with fail
 refine (A _).mono ?_
 rintro e w1 ⟨rfl,hb1⟩
 have g1:=hG.below hb1 hG.size
 go_wp2_with fail
 refine (C _ g1).mono ?_
 rintro e w2 ⟨rfl,hb2⟩
 go_wp2_with fail
 go_ret2
 exact ⟨rfl,bel_trans hb1 hb2⟩
theorem ptag6 (s t:List UInt8) (ht:t.length≤9223372036854770000) (w:World) (hG:G w) :
 Calls Tryz.prog 261 #[.string ⟨s.toArray⟩,.string ⟨t.toArray⟩,inF 6] w fun e w'=>e=.returned (.tuple #[.string ⟨(keyP s (6::t)).1.toArray⟩,.int .i64 ((keyP s (6::t)).2:Int)])∧Below w.heap.size w w':=by
 have A:=fun W=>pinput6 t ht W
 have C:=fun W g=>keyed7_any s (6::t) (by simp;omega) W g
 obtain ⟨⟨x,y⟩,hx⟩:∃ x,keyP s (6::t)=x:=⟨_,rfl⟩
 rw [hx] at C ⊢
 clear hx
 go_enter Tryz.func261,Tryz.ntmps261
 go_wp2_with fail
 refine (A _).mono ?_
 rintro e w1 ⟨rfl,hb1⟩
 have g1:=hG.below hb1 hG.size
 go_wp2_with fail
 refine (C _ g1).mono ?_
 rintro e w2 ⟨rfl,hb2⟩
 go_wp2_with fail
 go_ret2
 exact ⟨rfl,bel_trans hb1 hb2⟩
theorem pkeytag_any (s k:List UInt8) (w:World) (hG:G w) (hk:k.length≤140737488351232) :
 Calls Tryz.prog 219 #[.string ⟨s.toArray⟩,.string ⟨k.toArray⟩] w fun e w'=>e=.returned (.tuple #[.string ⟨(keyTagP s k).1.toArray⟩,.int .i64 ((keyTagP s k).2:Int)])∧Below w.heap.size w w':=by
 have A:=ptag5 s k (by omega) w hG
 unfold keyTagP
 obtain ⟨⟨x,y⟩,hx⟩:∃ x,keyP s (5::k)=x:=⟨_,rfl⟩
 rw [hx] at A ⊢
 clear hx
 go_enter Tryz.func219,Tryz.ntmps219
 go_wp2_with fail
 refine A.mono ?_
 rintro e w1 ⟨rfl,hb1⟩
 go_wp2_with fail
 go_ret2
 exact ⟨rfl,hb1⟩
theorem pseedMay_any (s:List UInt8) (w:World) :
 Calls Tryz.prog 218 #[.string ⟨s.toArray⟩] w fun e w'=>e=.returned (.bool (decide (mayK s)))∧w'=w:=by
 by_cases h1:s.length < 1
 ·rw [decide_eq_false (show ¬ mayK s from fun h=>by have:=h.1;omega)]
  have i1:¬ (1:Int)≤(s.length:Int):=by omega
  go_enter Tryz.func218,Tryz.ntmps218
  go_wp2_with fail
  go_ret
  exact ⟨rfl,rfl⟩
 ·have i1:(1:Int)≤(s.length:Int):=by omega
  by_cases h2:s.length≤32
  ·rw [decide_eq_true (show mayK s from ⟨by omega,h2⟩)]
   have i2:(s.length:Int)≤32:=by omega
   go_enter Tryz.func218,Tryz.ntmps218
   go_wp2_with fail
   go_ret
   exact ⟨rfl,rfl⟩
  ·rw [decide_eq_false (show ¬ mayK s from fun h=>by have:=h.2;omega)]
   have i2:¬ (s.length:Int)≤32:=by omega
   go_enter Tryz.func218,Tryz.ntmps218
   go_wp2_with fail
   go_ret
   exact ⟨rfl,rfl⟩
theorem pvaltag_any (s v:List UInt8) (w:World) (hG:G w) (hv:v.length≤140737488351232) :
 Calls Tryz.prog 220 #[.string ⟨s.toArray⟩,.string ⟨v.toArray⟩] w fun e w'=>e=.returned (.tuple #[.string ⟨(valTagP s v).1.toArray⟩,.int .i64 ((valTagP s v).2:Int)])∧Below w.heap.size w w':=by
 have A:=ptag6 s v (by omega) w hG
 have M:=pseedMay_any s w
 unfold valTagP
 by_cases hs:mayK s
 ·rw [show keyP s (6::v)=(keyL s (6::v),0) by unfold keyP;rw [if_pos hs]] at A
  rw [decide_eq_true hs] at M
  rw [if_pos hs]
  unfold tagV
  obtain ⟨x,hx⟩:∃ x,keyL s (6::v)=x:=⟨_,rfl⟩
  rw [hx] at A ⊢
  clear hx hs
  by_cases h0:v=[]
  ·subst h0
   rw [if_pos rfl]
   go_enter Tryz.func220,Tryz.ntmps220
   go_wp2_with fail
   refine M.mono ?_
   rintro e w1 ⟨rfl,rfl⟩
   go_wp2_with fail
   go_ret2
   exact ⟨rfl,Below.refl _ _⟩
  ·rw [if_neg h0]
   have n0:v.isEmpty=false:=ne_nil7 v h0
   clear h0
   go_enter Tryz.func220,Tryz.ntmps220
   go_wp2_with fail
   refine M.mono ?_
   rintro e w1 ⟨rfl,rfl⟩
   go_wp2_with fail
   refine A.mono ?_
   rintro e w1 ⟨rfl,hb1⟩
   go_wp2_with fail
   go_ret2
   exact ⟨rfl,hb1⟩
 ·rw [decide_eq_false hs] at M
  rw [if_neg hs]
  clear hs
  go_enter Tryz.func220,Tryz.ntmps220
  go_wp2_with fail
  refine M.mono ?_
  rintro e w1 ⟨rfl,rfl⟩
  go_wp2_with fail
  go_ret2
  exact ⟨rfl,Below.refl _ _⟩
set_option maxHeartbeats 2000000 in
theorem pone_any (s:List UInt8) (k t:Int) (a b:List UInt8) (w:World) (hG:G w) :
 Calls Tryz.prog 146 #[.string ⟨s.toArray⟩,evW (k,t,a,b)] w fun e w'=>e=.returned (.tuple #[evW (oneP s (k,t,a,b)).1,.int .i64 ((oneP s (k,t,a,b)).2:Int)])∧Below w.heap.size w w':=by
 have X0:=(SBox.new w 64 #[.int .i64 k,.int .i64 t,.string ⟨a.toArray⟩,.string ⟨b.toArray⟩]).alloc (.cells #[.int .i64 0,.int .i64 0,.string ⟨#[]⟩,.string ⟨#[]⟩] 64)
 have R0:=SBox.new (w.alloc (.cells #[.int .i64 k,.int .i64 t,.string ⟨a.toArray⟩,.string ⟨b.toArray⟩] 64)) 64 #[.int .i64 0,.int .i64 0,.string ⟨#[]⟩,.string ⟨#[]⟩]
 rw [show (w.alloc (.cells #[.int .i64 k,.int .i64 t,.string ⟨a.toArray⟩,.string ⟨b.toArray⟩] 64)).heap.size=w.heap.size+1 by simp] at R0
 have B00:=(Below.refl w.heap.size w).alloc (Nat.le_refl _) (.cells #[.int .i64 k,.int .i64 t,.string ⟨a.toArray⟩,.string ⟨b.toArray⟩] 64)
 have B0:=B00.alloc B00.size (.cells #[.int .i64 0,.int .i64 0,.string ⟨#[]⟩,.string ⟨#[]⟩] 64)
 have M:Hid (∀ W,Calls Tryz.prog 123 #[.agg #[.int .i64 k,.int .i64 t,.string ⟨a.toArray⟩,.string ⟨b.toArray⟩]] W fun e w'=>e=.returned (.bool (decide (mayE (k,t,a,b))))∧Below W.heap.size W w'):=fun W=>pmay_any k t a b W
 have S:Hid (∀ W,Calls Tryz.prog 218 #[.string ⟨s.toArray⟩] W fun e w'=>e=.returned (.bool (decide (mayK s)))∧w'=W):=fun W=>pseedMay_any s W
 by_cases hm:mayE (k,t,a,b)∧mayK s
 ·obtain ⟨hm,hs⟩:=hm
  rw [oneP_ok s _ hm hs]
  rw [decide_eq_true hm] at M
  rw [decide_eq_true hs] at S
  by_cases hk:k=2∨k=3
  ·have hl:=((mayE_key hk).1 hm).2
   have A1:=fun W g=>pkeytag_any s a W g (by omega)
   have A2:=fun W g=>pvaltag_any s b W g (by omega)
   unfold keyTagP keyP at A1
   unfold valTagP at A2
   rw [if_pos hs] at A1 A2
   have HE:Hid (tagE (keyL s) (k,t,a,b)=(k,t,keyL s (5::a),tagV (keyL s) b)):=by
    show _=_
    unfold tagE tagK
    rw [if_pos (show keyedE k from hk)]
   obtain ⟨p,hp⟩:∃ p,keyL s (5::a)=p:=⟨_,rfl⟩
   obtain ⟨q,hq⟩:∃ q,tagV (keyL s) b=q:=⟨_,rfl⟩
   rw [hp,hq] at HE
   rw [hp] at A1
   rw [hq] at A2
   rw [HE.out]
   have qk:(k==2)=true∨(k==2)=false∧(k==3)=true:=by
    rcases hk with h | h
    ·left;rw [h];rfl
    ·right;rw [h];exact ⟨rfl,rfl⟩
   clear hp hq hl hm hs hk
   rcases qk with k2 | ⟨k2,k3⟩
   all_goals
    go_enter Tryz.func146,Tryz.ntmps146
    go_wp2_with fail
    refine (M.out _).mono ?_
    rintro e w1 ⟨rfl,b1⟩
    have X1:=X0.below b1
    have R1:=R0.below b1
    have x0:=X1.cell 0 _ rfl
    have x2:=X1.cell 2 _ rfl
    have G1:=hG.below (bel_trans B0 b1) hG.size
    go_wp2_with fail
    refine (S.out _).mono ?_
    rintro e w1' ⟨rfl,rfl⟩
    go_wp2_with fail
    refine (A1 _ G1).mono ?_
    rintro e w2 ⟨rfl,b2⟩
    have X2:=X1.below b2
    have R2:=R1.below b2
    have y2:=X2.cell 2 _ rfl
    have y3:=X2.cell 3 _ rfl
    have f2:=X2.frozen 2
    have X3:=X2.set 2 (.string ⟨p.toArray⟩)
    have R3:=R2.other w.heap.size 2 (.string ⟨p.toArray⟩) (by omega)
    have B3:=(bel_trans (bel_trans B0 b1) b2).setCell (p:=⟨w.heap.size,2,none⟩) (Nat.le_refl _) (.string ⟨p.toArray⟩)
    have G3:=hG.below B3 hG.size
    go_wp2_with fail
    refine (A2 _ G3).mono ?_
    rintro e w4 ⟨rfl,b4⟩
    have X4:=X3.below b4
    have R4:=R3.below b4
    have B4:=bel_trans B3 b4
    clear x0 x2 y2 y3 f2
    have z0:=X4.cell 0 _ rfl
    have z1:=X4.cell 1 _ rfl
    have z2:=X4.cell 2 _ rfl
    have z3:=X4.cell 3 _ rfl
    have f3:=X4.frozen 3
    have r0:=R4.cell 0 _ rfl
    have r1:=R4.cell 1 _ rfl
    have r2:=R4.cell 2 _ rfl
    have r3:=R4.cell 3 _ rfl
    have g0:=R4.frozen 0
    have g1:=R4.frozen 1
    have g2:=R4.frozen 2
    have g3:=R4.frozen 3
    have R5:=R4.other w.heap.size 3 (.string ⟨q.toArray⟩) (by omega)
    have B5:=B4.setCell (p:=⟨w.heap.size,3,none⟩) (Nat.le_refl _) (.string ⟨q.toArray⟩)
    go_wp2_with fail
    generalize hW:World.setCell _ _ _=W
    have RW:SBox W (w.heap.size+1) 64 #[.int .i64 k,.int .i64 t,.string ⟨p.toArray⟩,.string ⟨q.toArray⟩]:=by rw [← hW];exact R5.put4 _ _ _ _
    have BZ:Below w.heap.size w W:=by rw [← hW];exact bel_put4 B5 (Nat.le_succ _) _ _ _ _
    exact bodyPost_ret (v:=.tuple #[evW (k,t,p,q),.int .i64 0]) (results_row_tmp Tryz.results146 _ _ (w.heap.size+1) 64 _ (0,0) _ rfl RW Tryz.underlying64 rfl size_ev7) rfl ⟨rfl,BZ⟩
  ·have HE:Hid (tagE (keyL s) (k,t,a,b)=(k,t,a,b)):=by
    show _=_
    unfold tagE
    rw [if_neg (show ¬ keyedE k from hk)]
   rw [HE.out]
   have k2:(k==2)=false:=beq_eq_false_iff_ne.2 (fun h=>hk (Or.inl h))
   have k3:(k==3)=false:=beq_eq_false_iff_ne.2 (fun h=>hk (Or.inr h))
   clear hk hm hs
   go_enter Tryz.func146,Tryz.ntmps146
   go_wp2_with fail
   refine (M.out _).mono ?_
   rintro e w1 ⟨rfl,b1⟩
   have X1:=X0.below b1
   have R1:=R0.below b1
   have B1:=bel_trans B0 b1
   have z0:=X1.cell 0 _ rfl
   have z1:=X1.cell 1 _ rfl
   have z2:=X1.cell 2 _ rfl
   have z3:=X1.cell 3 _ rfl
   have r0:=R1.cell 0 _ rfl
   have r1:=R1.cell 1 _ rfl
   have r2:=R1.cell 2 _ rfl
   have r3:=R1.cell 3 _ rfl
   have g0:=R1.frozen 0
   have g1:=R1.frozen 1
   have g2:=R1.frozen 2
   have g3:=R1.frozen 3
   go_wp2_with fail
   refine (S.out _).mono ?_
   rintro e w1' ⟨rfl,rfl⟩
   go_wp2_with fail
   generalize hW:World.setCell _ _ _=W
   have RW:SBox W (w.heap.size+1) 64 #[.int .i64 k,.int .i64 t,.string ⟨a.toArray⟩,.string ⟨b.toArray⟩]:=by rw [← hW];exact R1.put4 _ _ _ _
   have BZ:Below w.heap.size w W:=by rw [← hW];exact bel_put4 B1 (Nat.le_succ _) _ _ _ _
   exact bodyPost_ret (v:=.tuple #[evW (k,t,a,b),.int .i64 0]) (results_row_tmp Tryz.results146 _ _ (w.heap.size+1) 64 _ (0,0) _ rfl RW Tryz.underlying64 rfl size_ev7) rfl ⟨rfl,BZ⟩
 ·rw [oneP_no s _ hm]
  by_cases h1:mayE (k,t,a,b)
  ·have h2:¬ mayK s:=fun h=>hm ⟨h1,h⟩
   rw [decide_eq_true h1] at M
   rw [decide_eq_false h2] at S
   clear hm h1 h2
   go_enter Tryz.func146,Tryz.ntmps146
   go_wp2_with fail
   refine (M.out _).mono ?_
   rintro e w1 ⟨rfl,b1⟩
   have R1:=R0.below b1
   have B1:=bel_trans B0 b1
   have r0:=R1.cell 0 _ rfl
   have r1:=R1.cell 1 _ rfl
   have r2:=R1.cell 2 _ rfl
   have r3:=R1.cell 3 _ rfl
   have g0:=R1.frozen 0
   have g1:=R1.frozen 1
   have g2:=R1.frozen 2
   have g3:=R1.frozen 3
   go_wp2_with fail
   refine (S.out _).mono ?_
   rintro e w1' ⟨rfl,rfl⟩
   go_wp2_with fail
   generalize hW:World.setCell _ _ _=W
   have RW:SBox W (w.heap.size+1) 64 #[.int .i64 0,.int .i64 0,.string ⟨#[]⟩,.string ⟨#[]⟩]:=by rw [← hW];exact R1.put4 _ _ _ _
   have BZ:Below w.heap.size w W:=by rw [← hW];exact bel_put4 B1 (Nat.le_succ _) _ _ _ _
   exact bodyPost_ret (v:=.tuple #[evW (0,0,[],[]),.int .i64 1]) (results_row_tmp Tryz.results146 _ _ (w.heap.size+1) 64 _ (0,0) _ rfl RW Tryz.underlying64 rfl size_ev7) rfl ⟨rfl,BZ⟩
  ·rw [decide_eq_false h1] at M
   clear hm h1 S
   go_enter Tryz.func146,Tryz.ntmps146
   go_wp2_with fail
   refine (M.out _).mono ?_
   rintro e w1 ⟨rfl,b1⟩
   have R1:=R0.below b1
   have B1:=bel_trans B0 b1
   have r0:=R1.cell 0 _ rfl
   have r1:=R1.cell 1 _ rfl
   have r2:=R1.cell 2 _ rfl
   have r3:=R1.cell 3 _ rfl
   have g0:=R1.frozen 0
   have g1:=R1.frozen 1
   have g2:=R1.frozen 2
   have g3:=R1.frozen 3
   go_wp2_with fail
   generalize hW:World.setCell _ _ _=W
   have RW:SBox W (w.heap.size+1) 64 #[.int .i64 0,.int .i64 0,.string ⟨#[]⟩,.string ⟨#[]⟩]:=by rw [← hW];exact R1.put4 _ _ _ _
   have BZ:Below w.heap.size w W:=by rw [← hW];exact bel_put4 B1 (Nat.le_succ _) _ _ _ _
   exact bodyPost_ret (v:=.tuple #[evW (0,0,[],[]),.int .i64 1]) (results_row_tmp Tryz.results146 _ _ (w.heap.size+1) 64 _ (0,0) _ rfl RW Tryz.underlying64 rfl size_ev7) rfl ⟨rfl,BZ⟩
end Go.Proofs.YtkkenfhlgpjmjaaGreatDoor
namespace Go.Proofs.YtkkenfhlgpjmjaaGreatDoor
set_option maxRecDepth 100000
open Go.RowKit Go.Shelf
set_option linter.unusedVariables false
attribute [local go_sem] Oper.semAt_some
abbrev eventsF (b:Nat):Value:=.func (.func 217) #[] #[.pointer (some ⟨b,0,none⟩)]
theorem pevents_any (a:Option Addr) (n cap:Nat) (w:World) :
 Calls Tryz.prog 145 #[.slice a n cap] w fun e w'=>e=.returned (eventsF w.heap.size)∧w'=w.alloc (.cells #[.slice a n cap] 22):=by
 go_enter Tryz.func145,Tryz.ntmps145
 go_wp2_with fail
 go_ret
 exact ⟨rfl,rfl⟩
set_option maxHeartbeats 1000000 in
theorem events1_in (l:Nat) (h:List Ev) (w0:World) (a:Option Addr) (cap:Nat) (hT:IsEvs w0 (.slice a h.length cap) h) (bh k:Nat) (J Jx:List (Fin h.length)→World→Prop)
 (hY:∀ pre x W,J pre W→pre.length < h.length→YieldAt Fence.wide (k - 1) Tryz.prog l (ixV h x) W fun e W'=>(e=.returned (.bool true)∧J (pre++[x]) W'∧KpE w0.heap.size bh W W')∨(e=.returned (.bool false)∧Jx (pre++[x]) W'))
 (W:World) (hW:Below w0.heap.size w0 W) (hbox:Boxed W bh 22 (.slice a h.length cap)) (h0:J [] W) :
 CallsIn Fence.wide k Tryz.prog 217 #[.func (.yield l) #[] #[],.pointer (some ⟨bh,0,none⟩)] W fun e W'=>(∃ v,e=.returned v) ∧
  ((∃ ys,ys=List.finRange h.length∧J ys W')∨(∃ pre,pre <+: List.finRange h.length∧Jx pre W')):=by
 have hdd:∀ k:Nat,(Fence.wide.depth.isSome=true→1≤k):=fun k h=>by cases h
 obtain ⟨a',cap',e1,h1,h2,h3,HC⟩:=hT.some_at
 obtain ⟨rfl,rfl⟩:a'=a∧cap'=cap:=by simpa [eq_comm] using e1
 clear e1 hT
 have c0:=hbox.cell
 refine callsIn_of_wp Tryz.func217 rfl trivial ?_ rfl
 simp only [Tryz.ntmps217,List.size_toArray,List.length_cons,List.length_nil,Nat.reduceAdd,Nat.reduceSub,Array.replicate_succ,Array.replicate_zero,List.push_toArray,List.append_toArray,List.nil_append,List.cons_append]
 gi_wp2
 gi_loopw [6] (fun i wr=>∃ k:Nat,k≤h.length∧i=.int .i64 k∧J ((List.finRange h.length).take k) wr∧Below w0.heap.size w0 wr∧Boxed wr bh 22 (.slice a' h.length cap')) (fun i _=>h.length - (RowKit.intOf i).toNat)
 case atStart=>exact ⟨0,Nat.zero_le _,rfl,h0,hW,hbox⟩
 case round =>
  obtain ⟨k',hk,rfl,hJ,hB,hbx⟩:=hrel
  have c1:=hbx.cell
  by_cases hlt:k' < h.length
  ·obtain ⟨bb,off,rfl,hblt,hcell⟩:=HC.out k' hlt
   obtain ⟨p0,p1,p2,p3⟩:=IsEvs.at hlt hcell
   have q0:=(hB.cell (p:=⟨bb,off+k'*4,none⟩) hblt).trans p0
   have q1:=(hB.cell (p:=⟨bb,off+k'*4+1,none⟩) hblt).trans p1
   have q2:=(hB.cell (p:=⟨bb,off+k'*4+2,none⟩) hblt).trans p2
   have q3:=(hB.cell (p:=⟨bb,off+k'*4+3,none⟩) hblt).trans p3
   have hR0:=hY _ ⟨k',hlt⟩ wr hJ (by rw [List.length_take,List.length_finRange];omega)
   rw [← fin_take hlt] at hR0
   obtain ⟨⟨x0,x1,x2,x3⟩,hx⟩:∃ x,h[k']=x:=⟨_,rfl⟩
   simp only [ixV,evW,hx] at hR0
   rw [hx] at q0 q1 q2 q3
   obtain ⟨fn,tmps,assign,body,hy,hR⟩:=hR0
   clear p0 p1 p2 p3 hcell hx
   have i0:(k':Int) < (h.length:Int):=by omega
   gi_wp2
   refine ⟨hdd _,?_⟩
   refine hR.mono ?_
   rintro e W3 (⟨rfl,hJ3,hk3⟩ | ⟨rfl,hJx3⟩)
   ·have hbx3:Boxed W3 bh 22 (.slice (some ⟨bb,off,none⟩) h.length cap'):=hk3.2.trans hbx
    gi_wp2
    go_roundw
    case rel=>exact ⟨k'+1,by omega,by first | go_num | simp,hJ3,hB.trans hk3.1,hbx3⟩
    case measure=>simp [RowKit.intOf];omega
   ·gi_wp2
    refine bodyPost_ret (results_none rfl _ _ _) rfl ?_
    exact ⟨⟨_,rfl⟩,.inr ⟨_,List.take_prefix _ _,hJx3⟩⟩
  ·obtain rfl:k'=h.length:=by omega
   have hE:(List.finRange h.length).take h.length=List.finRange h.length:=List.take_of_length_le (by rw [List.length_finRange];exact Nat.le_refl _)
   rw [hE] at hJ
   clear hE
   gi_wp2
   go_end0
   exact ⟨⟨_,rfl⟩,.inl ⟨_,rfl,hJ⟩⟩
theorem events_stops (h:List Ev) (w0:World) (a:Option Addr) (cap:Nat) (hT:IsEvs w0 (.slice a h.length cap) h) (bh k:Nat) (w:World) (hW:Below w0.heap.size w0 w) (hbox:Boxed w bh 22 (.slice a h.length cap)) :
 SeqStopsK Fence.wide k Tryz.prog 217 #[.pointer (some ⟨bh,0,none⟩)] (fun x:Fin h.length=>ixV h x) (KpE w0.heap.size bh) (fun ys=>ys=List.finRange h.length) (fun pre=>pre <+: List.finRange h.length) h.length w :=
 fun l J Jx W hb _ _ hY h0=>events1_in l h w0 a cap hT bh k J Jx hY W (hW.trans (hb.mono hW.size)) (boxed_below7 hbox hb) h0
end Go.Proofs.YtkkenfhlgpjmjaaGreatDoor
