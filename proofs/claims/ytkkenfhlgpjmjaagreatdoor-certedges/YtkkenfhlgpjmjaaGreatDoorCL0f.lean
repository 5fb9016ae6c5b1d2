/-
  What the methods of strings.Builder do to a builder that the call itself made. A strings.Builder within the certificate's writer: what its methods do, and what
-/
import Derived.Test.YtkkenfhlgpjmjaaGreatDoorCL0e
import Derived.Laws.Externs
namespace Go.Proofs.YtkkenfhlgpjmjaaGreatDoor
set_option maxRecDepth 100000
open Go.RowKit
theorem bld_info:(Tryz.prog.info? 100).map (fun i=>i.size)=some 2:=by kernel_rfl
set_option maxHeartbeats 1000000 in
set_option maxRecDepth 100000 in
theorem copyCheck_used (b:Nat) (w:World) (h0:w.cell? ⟨b,0,none⟩=some (.pointer (some ⟨b,0,none⟩))) :
 Calls Tryz.prog 234 #[.pointer (some ⟨b,0,none⟩)] w fun e w'=>e=.returned (.tuple #[])∧w'=w:=by
 obtain ⟨j,hj,_⟩:=Option.map_eq_some_iff.1 bld_info
 have hne:=fun W=>Lib.run_neq_ptr_same (P:=Tryz.prog) W ⟨b,0,none⟩ Tryz.underlying97 hj
 go_enter Tryz.func234,Tryz.ntmps234
 go_wp2
 go_end0
 exact ⟨rfl,rfl⟩
set_option maxHeartbeats 1000000 in
set_option maxRecDepth 100000 in
theorem copyCheck_fresh (b:Nat) (w:World) (h0:w.cell? ⟨b,0,none⟩=some (.pointer none)) (hsh:w.shape? b=some (100,2)) (hfz:w.frozen? ⟨b,0,none⟩=false) :
 Calls Tryz.prog 234 #[.pointer (some ⟨b,0,none⟩)] w fun e w'=>e=.returned (.tuple #[])∧w'=w.setCell ⟨b,0,none⟩ (.pointer (some ⟨b,0,none⟩)):=by
 obtain ⟨j,hj,hjs⟩:=Option.map_eq_some_iff.1 bld_info
 have hto:=Lib.run_to_unsafe (P:=Tryz.prog) w ⟨b,0,none⟩ Tryz.underlying97 Tryz.underlying334 hj (by rw [hjs];decide) hsh (Nat.zero_lt_succ 1)
 have hfr:=Lib.run_from_unsafe (P:=Tryz.prog) w ⟨b,0,none⟩ Tryz.underlying334 Tryz.underlying97 hj hsh (by kernel_rfl)
 go_enter Tryz.func234,Tryz.ntmps234
 go_wp2
 rw [run_callFunc_extern Tryz.func279 (by kernel_rfl) (by kernel_rfl) (by kernel_rfl) (e:=Extern.AbiNoEscape.same) (by kernel_rfl)]
 rw [Lib.run_noEscape]
 simp only [Result.andThen]
 rw [Oper.upon_value]
 go_wp2
 go_end0
 exact ⟨rfl,rfl⟩
theorem copyCheck_any (B b:Nat) (bs:List Value) (w:World) (h:Lib.IsBuilder 100 5 B b bs w) :
 Calls Tryz.prog 234 #[.pointer (some ⟨b,0,none⟩)] w fun e w'=>e=.returned (.tuple #[])∧(Lib.BuilderAt 100 5 B b (.pointer (some ⟨b,0,none⟩)) bs w'∧Below B w w'):=by
 rcases h with h | h
 ·refine (copyCheck_fresh b w h.cell0 h.shape h.frozen0).mono ?_
  rintro e w' ⟨rfl,rfl⟩
  exact ⟨rfl,h.used _,(Below.refl B w).setCell (p:=⟨b,0,none⟩) h.1 _⟩
 ·refine (copyCheck_used b w h.cell0).mono ?_
  rintro e w' ⟨rfl,rfl⟩
  exact ⟨rfl,h,Below.refl B _⟩
set_option maxHeartbeats 2000000 in
set_option maxRecDepth 100000 in
theorem writeString_any (B b:Nat) (bs:List Value) (s:ByteArray) (w:World) (h:Lib.IsBuilder 100 5 B b bs w) (hlen:bs.length+s.size≤140737488355328) (hBw:B≤w.heap.size) :
 Calls Tryz.prog 174 #[.pointer (some ⟨b,0,none⟩),.string s] w fun e w'=>e=.returned (.tuple #[.int .i64 s.size,.nilIface])∧(Lib.BuilderAt 100 5 B b (.pointer (some ⟨b,0,none⟩)) (bs++Lib.strCells s) w'∧Below B w w'):=by
 obtain ⟨i0,hi,hz0,hz1,hz2⟩:=info_parts byte_info
 go_enter Tryz.func174,Tryz.ntmps174
 go_wp2_with (go_at_call 234;refine (copyCheck_any B b bs _ h).mono ?_)
 rintro e w1 ⟨rfl,h1,hb1⟩
 obtain ⟨hB,v,hbk,hown,hne⟩:=h1
 have c0:w1.cell? ⟨b,0,none⟩=some (.pointer (some ⟨b,0,none⟩)):=by rw [Lib.cell_of_heap hbk];rfl
 have c1:w1.cell? ⟨b,1,none⟩=some v:=by rw [Lib.cell_of_heap hbk];rfl
 go_wp2_with (at_builtin;refine Lib.wpList_append_own_string _ rfl _ _ 98 9 rfl B 5 i0 Tryz.underlying98 Tryz.underlying9 hi hz0 hz1 hz2 _ _ _ rfl hown s rfl ?c3 ?c4 ?c5 ?_)
 case c3=>unfold maxLen;omega
 case c4=>omega
 case c5=>have:=hb1.size;omega
 intro v' w2 hown' hgrow _
 have hlt:b < w1.heap.size:=by
  rcases Nat.lt_or_ge b w1.heap.size with h' | h'
  ·exact h'
  ·simp [Array.getElem?_eq_none h'] at hbk
 have hb2:w2.heap[b]?=some (.cells #[.pointer (some ⟨b,0,none⟩),v] 100 (0,0)):=by
  rw [hgrow.block b hlt (fun e=>hne e.symm)]
  exact hbk
 have d0:w2.cell? ⟨b,0,none⟩=some (.pointer (some ⟨b,0,none⟩)):=by rw [Lib.cell_of_heap hb2];rfl
 have d1:w2.cell? ⟨b,1,none⟩=some v:=by rw [Lib.cell_of_heap hb2];rfl
 have f1:w2.frozen? ⟨b,1,none⟩=false:=Lib.frozen_of_heap hb2 1
 obtain ⟨ao,n',cap,rfl⟩:∃ ao n' cap,v'=.slice ao n' cap:=by
  rcases hown'.2 with ⟨hv,_⟩ | ⟨g,cap,cur,hv,_⟩
  ·exact ⟨_,_,_,hv⟩
  ·exact ⟨_,_,_,hv⟩
 go_wp2
 go_ret2
 refine ⟨rfl,?_,?_⟩
 ·exact Lib.BuilderAt.put (T:=100) (e:=5) hB hb2 (bs':=bs++Lib.strCells s) (by simpa [Lib.strCells_length] using hown') (by decide)
 ·exact (hb1.grown hgrow (by have:=hb1.size;omega) (fun k hk=>(hown.lt k hk).1)).setCell (p:=⟨b,1,none⟩) hB _
set_option maxHeartbeats 1000000 in
set_option maxRecDepth 100000 in
theorem string_any (B b:Nat) (l:List UInt8) (w:World) (h:Lib.BuilderAt 100 5 B b (.pointer (some ⟨b,0,none⟩)) (Lib.byteCells l) w) (h0:l≠[]) :
 Calls Tryz.prog 45 #[.pointer (some ⟨b,0,none⟩)] w fun e w'=>e=.returned (.string ⟨l.toArray⟩)∧Below B w w':=by
 obtain ⟨hB,v,hbk,hown,hne⟩:=h
 have hl0:l.length≠0:=by simpa using h0
 rw [Lib.byteCells_length] at hown
 obtain ⟨g,cap,cur,rfl,hbg,hg,hnc,hcm,hcs,htake⟩:∃ g cap cur,v=.slice (some ⟨g,0,none⟩) l.length cap∧B≤g∧w.heap[g]?=some (.cells cur 5 (0,0))∧l.length≤cap∧cap≤maxLen∧cur.size=cap*1∧cur.toList.take (l.length*1)=Lib.byteCells l:=by
  rcases hown.2 with ⟨_,hz⟩ | ⟨g,cap,cur,hv,r⟩
  ·exact absurd hz hl0
  ·exact ⟨g,cap,cur,hv,r⟩
 have c1:w.drew.cell? ⟨b,1,none⟩=some (.slice (some ⟨g,0,none⟩) l.length cap):=by
  have:w.drew.heap[b]?=some (.cells #[.pointer (some ⟨b,0,none⟩),.slice (some ⟨g,0,none⟩) l.length cap] 100 (0,0)):=hbk
  rw [Lib.cell_of_heap this];rfl
 have hSD:(Builtin.unsafeSliceData_ #[98] 174 #[.slice (some ⟨g,0,none⟩) l.length cap]).run Tryz.prog w.drew=.ok (.pointer (some ⟨g,0,none⟩)) w.drew :=
  Lib.run_unsafeSliceData_row _ _ _ _ _ _ (by omega)
 have hUS:(Builtin.unsafeString_ #[174,3] 9 #[.pointer (some ⟨g,0,none⟩),.int .i64 l.length]).run Tryz.prog w.drew=.ok (.string ⟨l.toArray⟩) (w.drew.freeze ⟨g,0,none⟩ l.length):=by
  refine Lib.run_unsafeString_row w.drew 174 3 9 5 Tryz.underlying174 (by kernel_rfl) g cur.size (by have hg':w.drew.heap[g]?=some (.cells cur 5 (0,0)):=hg;simp [World.shape?,hg']) l h0 (by omega) (by unfold maxLen at hcm;omega) ?_
  intro j x hx
  exact hown.cells (g:=g) rfl j (.int .u8 x.toNat) (by simp [Lib.byteCells,hx])
 go_enter Tryz.func45,Tryz.ntmps45
 go_wp2
 go_region
 all_goals (go_wp2;go_ret;exact ⟨rfl,Lib.below_freeze (Below.drew (Below.refl B w)) (p:=⟨g,0,none⟩) hbg _⟩)
theorem bld_below {B b:Nat} {p:Value} {bs:List Value} {w w':World} (h:Lib.BuilderAt 100 5 B b p bs w) (hb:Below w.heap.size w w'):Lib.BuilderAt 100 5 B b p bs w':=by
 have hlt:=h.lt
 obtain ⟨hB,v,hbk,hown,hne⟩:=h
 exact ⟨hB,v,(hb.block b hlt).trans hbk,owns_below hown hb,hne⟩
theorem bld_new (w:World) (o:Array Value) (ho:o=#[.pointer none,.slice none 0 0]):Lib.BuilderAt 100 5 w.heap.size w.heap.size (.pointer none) [] (w.alloc (.cells o 100)):=by
 subst ho
 refine ⟨Nat.le_refl _,.slice none 0 0,?_,World.ownsRow_nil _ _ _ _,by simp [Value.ownBlock]⟩
 show (w.heap.push _)[w.heap.size]?=_
 simp
theorem write_bytes (B b:Nat) (l s:List UInt8) (w:World) (h:Lib.IsBuilder 100 5 B b (Lib.byteCells l) w) (hlen:l.length+s.length≤140737488355328) (hBw:B≤w.heap.size) :
 Calls Tryz.prog 174 #[.pointer (some ⟨b,0,none⟩),.string ⟨s.toArray⟩] w fun e w'=>e=.returned (.tuple #[.int .i64 s.length,.nilIface])∧(Lib.BuilderAt 100 5 B b (.pointer (some ⟨b,0,none⟩)) (Lib.byteCells (l++s)) w'∧Below B w w'):=by
 have h1:=writeString_any B b (Lib.byteCells l) ⟨s.toArray⟩ w h (by rw [Lib.byteCells_length,ba_size];exact hlen) hBw
 rw [strCells_list,byteCells_append,ba_size] at h1
 exact h1
end Go.Proofs.YtkkenfhlgpjmjaaGreatDoor
namespace Go.Proofs.YtkkenfhlgpjmjaaGreatDoor
set_option maxRecDepth 100000
open Go.RowKit
set_option linter.unusedVariables false
structure FrW (B b:Nat) (W W':World):Prop where
 bel:Below B W W'
 blk:∀ x,x < W.heap.size→x≠b→(∀ c fr,W.heap[x]?≠some (.cells c 5 fr))→W'.heap[x]?=W.heap[x]?
def ApW (b:Nat) (W:World) (x:Nat):Prop:=x < W.heap.size∧x≠b∧∀ c fr,W.heap[x]?≠some (.cells c 5 fr)
section
variable {B b:Nat} {A W W':World}
theorem FrW.refl (B b:Nat) (W:World):FrW B b W W:=⟨Below.refl _ _,fun _ _ _ _=>rfl⟩
theorem FrW.trans (h:FrW B b A W) (k:FrW B b W W'):FrW B b A W':=by
 refine ⟨h.bel.trans k.bel,fun x hx hne h3=>?_⟩
 have e:=h.blk x hx hne h3
 exact (k.blk x (Nat.lt_of_lt_of_le hx h.bel.size) hne (fun c fr=>by rw [e];exact h3 c fr)).trans e
theorem FrW.below (h:Below W.heap.size W W') (hB:B≤W.heap.size):FrW B b W W':=⟨h.mono hB,fun x hx _ _=>h.block x hx⟩
theorem FrW.andBelow (h:FrW B b A W) (k:Below W.heap.size W W') (hB:B≤W.heap.size):FrW B b A W':=h.trans (FrW.below k hB)
theorem ApW.later {x:Nat} (h:ApW b W x) (k:FrW B b W W'):ApW b W' x∧W'.heap[x]?=W.heap[x]?:=by
 have e:=k.blk x h.1 h.2.1 h.2.2
 exact ⟨⟨Nat.lt_of_lt_of_le h.1 k.bel.size,h.2.1,fun c fr=>by rw [e];exact h.2.2 c fr⟩,e⟩
theorem ApW.cells {x:Nat} {c:Array Value} {t:TypeId} {fr:Nat × Nat} (h:W.heap[x]?=some (.cells c t fr)) (hne:x≠b) (ht:t≠5):ApW b W x :=
 ⟨(Array.getElem?_eq_some_iff.1 h).1,hne,fun c' fr' e=>by rw [h] at e;cases e;exact ht rfl⟩
end
abbrev TW:TypeId:=102
theorem bldW_below {B b:Nat} {bs:List Value} {w w':World} (h:Lib.IsBuilder TW 5 B b bs w) (hb:Below w.heap.size w w'):Lib.IsBuilder TW 5 B b bs w':=by
 have go:∀ p,Lib.BuilderAt TW 5 B b p bs w→Lib.BuilderAt TW 5 B b p bs w':=fun p h=>by
  have hlt:=h.lt
  obtain ⟨hB,v,hbk,hown,hne⟩:=h
  exact ⟨hB,v,(hb.block b hlt).trans hbk,owns_below hown hb,hne⟩
 rcases h with h | h
 ·exact .inl (go _ h)
 ·exact .inr (go _ h)
theorem bldW_lt {B b:Nat} {bs:List Value} {w:World} (h:Lib.IsBuilder TW 5 B b bs w):B≤b∧b < w.heap.size:=by
 rcases h with h | h
 ·exact ⟨h.1,h.lt⟩
 ·exact ⟨h.1,h.lt⟩
theorem bldW_new (w:World):Lib.IsBuilder TW 5 w.heap.size w.heap.size [] (w.alloc (.cells #[.pointer none,.slice none 0 0] TW)):=by
 refine .inl ⟨Nat.le_refl _,.slice none 0 0,?_,World.ownsRow_nil _ _ _ _,by simp [Value.ownBlock]⟩
 show (w.heap.push _)[w.heap.size]?=_
 simp
set_option maxHeartbeats 1000000 in
set_option maxRecDepth 100000 in
theorem copyW_fresh (b:Nat) (w:World) (h0:w.cell? ⟨b,0,none⟩=some (.pointer none)) (hsh:w.shape? b=some (TW,2)) (hfz:w.frozen? ⟨b,0,none⟩=false) :
 Calls Tryz.prog 234 #[.pointer (some ⟨b,0,none⟩)] w fun e w'=>e=.returned (.tuple #[])∧w'=w.setCell ⟨b,0,none⟩ (.pointer (some ⟨b,0,none⟩)):=by
 obtain ⟨j,hj,hjs⟩:=Option.map_eq_some_iff.1 bld_info
 have hto:=Lib.run_to_unsafe (P:=Tryz.prog) w ⟨b,0,none⟩ Tryz.underlying97 Tryz.underlying334 hj (by rw [hjs];decide) hsh (Nat.zero_lt_succ 1)
 have hfr:=Lib.run_from_unsafe (P:=Tryz.prog) w ⟨b,0,none⟩ Tryz.underlying334 Tryz.underlying97 hj hsh (by kernel_rfl)
 go_enter Tryz.func234,Tryz.ntmps234
 go_wp2
 rw [run_callFunc_extern Tryz.func279 (by kernel_rfl) (by kernel_rfl) (by kernel_rfl) (e:=Extern.AbiNoEscape.same) (by kernel_rfl)]
 rw [Lib.run_noEscape]
 simp only [Result.andThen]
 rw [Oper.upon_value]
 go_wp2
 go_end0
 exact ⟨rfl,rfl⟩
theorem copyW_any (B b:Nat) (bs:List Value) (w:World) (h:Lib.IsBuilder TW 5 B b bs w) :
 Calls Tryz.prog 234 #[.pointer (some ⟨b,0,none⟩)] w fun e w'=>e=.returned (.tuple #[])∧(Lib.BuilderAt TW 5 B b (.pointer (some ⟨b,0,none⟩)) bs w'∧FrW B b w w'):=by
 rcases h with h | h
 ·refine (copyW_fresh b w h.cell0 h.shape h.frozen0).mono ?_
  rintro e w' ⟨rfl,rfl⟩
  exact ⟨rfl,h.used _,(Below.refl B w).setCell (p:=⟨b,0,none⟩) h.1 _,fun x _ hne _=>Below.heap_setCell _ _ _ x hne⟩
 ·refine (copyCheck_used b w h.cell0).mono ?_
  rintro e w' ⟨rfl,rfl⟩
  exact ⟨rfl,h,FrW.refl B b _⟩
set_option maxHeartbeats 2000000 in
set_option maxRecDepth 100000 in
theorem writeW_any (B b:Nat) (bs:List Value) (s:ByteArray) (w:World) (h:Lib.IsBuilder TW 5 B b bs w) (hlen:bs.length+s.size≤140737488355328) (hBw:B≤w.heap.size) :
 Calls Tryz.prog 174 #[.pointer (some ⟨b,0,none⟩),.string s] w fun e w'=>e=.returned (.tuple #[.int .i64 s.size,.nilIface])∧(Lib.BuilderAt TW 5 B b (.pointer (some ⟨b,0,none⟩)) (bs++Lib.strCells s) w'∧FrW B b w w'):=by
 obtain ⟨i0,hi,hz0,hz1,hz2⟩:=info_parts byte_info
 go_enter Tryz.func174,Tryz.ntmps174
 go_wp2_with (go_at_call 234;refine (copyW_any B b bs _ h).mono ?_)
 rintro e w1 ⟨rfl,h1,hb1⟩
 obtain ⟨hB,v,hbk,hown,hne⟩:=h1
 have c0:w1.cell? ⟨b,0,none⟩=some (.pointer (some ⟨b,0,none⟩)):=by rw [Lib.cell_of_heap hbk];rfl
 have c1:w1.cell? ⟨b,1,none⟩=some v:=by rw [Lib.cell_of_heap hbk];rfl
 go_wp2_with (at_builtin;refine Lib.wpList_append_own_string _ rfl _ _ 98 9 rfl B 5 i0 Tryz.underlying98 Tryz.underlying9 hi hz0 hz1 hz2 _ _ _ rfl hown s rfl ?c3 ?c4 ?c5 ?_)
 case c3=>unfold maxLen;omega
 case c4=>omega
 case c5=>have:=hb1.bel.size;omega
 intro v' w2 hown' hgrow _
 have hlt:b < w1.heap.size:=by
  rcases Nat.lt_or_ge b w1.heap.size with h' | h'
  ·exact h'
  ·simp [Array.getElem?_eq_none h'] at hbk
 have hb2:w2.heap[b]?=some (.cells #[.pointer (some ⟨b,0,none⟩),v] TW (0,0)):=by
  rw [hgrow.block b hlt (fun e=>hne e.symm)]
  exact hbk
 have d0:w2.cell? ⟨b,0,none⟩=some (.pointer (some ⟨b,0,none⟩)):=by rw [Lib.cell_of_heap hb2];rfl
 have d1:w2.cell? ⟨b,1,none⟩=some v:=by rw [Lib.cell_of_heap hb2];rfl
 have f1:w2.frozen? ⟨b,1,none⟩=false:=Lib.frozen_of_heap hb2 1
 obtain ⟨ao,n',cap,rfl⟩:∃ ao n' cap,v'=.slice ao n' cap:=by
  rcases hown'.2 with ⟨hv,_⟩ | ⟨g,cap,cur,hv,_⟩
  ·exact ⟨_,_,_,hv⟩
  ·exact ⟨_,_,_,hv⟩
 go_wp2
 go_ret2
 refine ⟨rfl,?_,hb1.trans ⟨(((Below.refl B w1).grown hgrow (by have:=hb1.bel.size;omega) (fun k hk=>(hown.lt k hk).1)).setCell (p:=⟨b,1,none⟩) hB _),fun x hx hxb hxr=>?_⟩⟩
 ·exact Lib.BuilderAt.put (T:=TW) (e:=5) hB hb2 (bs':=bs++Lib.strCells s) (by simpa [Lib.strCells_length] using hown') (by decide)
 ·refine (Below.heap_setCell _ _ _ x hxb).trans (hgrow.block x hx (fun e=>?_))
  rcases hown.2 with ⟨hv,_⟩ | ⟨g,cap',cur,hv,_,hg,_⟩
  ·rw [hv] at e;cases e
  ·rw [hv] at e
   have e2:x=g:=by simpa [Value.ownBlock] using e
   exact hxr cur (0,0) (by rw [e2];exact hg)
theorem writeW (B b:Nat) (l s:List UInt8) (w:World) (h:Lib.IsBuilder TW 5 B b (Lib.byteCells l) w) (hlen:l.length+s.length≤140737488355328) (hBw:B≤w.heap.size) :
 Calls Tryz.prog 174 #[.pointer (some ⟨b,0,none⟩),.string ⟨s.toArray⟩] w fun e w'=>e=.returned (.tuple #[.int .i64 s.length,.nilIface])∧(Lib.IsBuilder TW 5 B b (Lib.byteCells (l++s)) w'∧FrW B b w w'):=by
 have h1:=writeW_any B b (Lib.byteCells l) ⟨s.toArray⟩ w h (by rw [Lib.byteCells_length,ba_size];exact hlen) hBw
 rw [strCells_list,byteCells_append,ba_size] at h1
 exact h1.mono fun _ _ ⟨a,b,c⟩=>⟨a,.inr b,c⟩
end Go.Proofs.YtkkenfhlgpjmjaaGreatDoor
namespace Go.Proofs.YtkkenfhlgpjmjaaGreatDoor
set_option maxRecDepth 100000
open Go.RowKit
attribute [local go_sem] ba_size ba_get ba_extract ba_append wrap_byte wrap_u64_byte take_drop_end
set_option maxHeartbeats 1000000 in
theorem row_any (a:Option Addr) (n cap:Nat) (ss:List (List UInt8)) (w:World) (h:IsStrs w a n ss) :
 Calls Tryz.prog 175 #[.slice a n cap] w fun e w'=>e=.returned (.tuple #[.string ⟨(Lm.rowL ss).1.toArray⟩,.int .i64 ((Lm.rowL ss).2:Int)])∧Below w.heap.size w w':=by
 by_cases hbig:65535 < n
 ·have e:Lm.rowL ss=([],4):=by
   unfold Lm.rowL;rw [if_neg];rw [Lm.rowOk_iff];have:=h.1;omega
  rw [e]
  obtain ⟨h1,h2,h3,h4⟩:=h
  have hn:n≤140737488351232:=h3
  go_enter Tryz.func175,Tryz.ntmps175
  go_wp2
  go_ret2
  exact ⟨rfl,Below.refl _ _⟩
 ·have HS:Hid (IsStrs w a n ss):=h
  have hsl:ss.length=n:=h.1
  have hn:n≤65535:=by omega
  have HL:Hid (ss.length=n):=hsl
  have hor:n=0∨∃ b off,0 < n∧a=some ⟨b,off,none⟩∧b < w.heap.size∧Hid (∀ i (h:i < ss.length),w.cell? ⟨b,off+i,none⟩=some (.string ⟨ss[i].toArray⟩)):=by
   rcases h.2.2.2 with h0 | ⟨b,off,ha,hlt,hc⟩
   ·exact .inl h0
   ·by_cases h0:n=0
    ·exact .inl h0
    ·exact .inr ⟨b,off,by omega,ha,hlt,hc⟩
  have HLe:Hid (∀ s∈ss,s.length≤140737488351232):=h.2.1
  clear hsl h HS
  have hni:(n:Int)≤65535:=by omega
  have HB:Hid (∀ k,(Lm.lenL n++Lm.body (ss.take k)).length≤3+65538*65535∨¬ ∀ t∈ss.take k,t.length≤65535):=by
   intro k
   by_cases hk:∀ t∈ss.take k,t.length≤65535
   ·left
    have h1:=Lm.body_length (ss.take k) hk
    have h2:=Lm.lenL_le n
    have h3:(ss.take k).length≤65535:=by have:=HL.out;simp;omega
    simp only [List.length_append];omega
   ·exact .inr hk
  rcases hor with rfl | ⟨b,off,hn0,rfl,hblt,HC⟩
  ·go_enter Tryz.func175,Tryz.ntmps175
   go_wp2_with fail
   refine (length_any 0 (by omega) _).mono ?_
   rintro e w1 ⟨rfl,hb1⟩
   go_wp2_with fail
   refine (write_bytes w.heap.size w.heap.size [] (Lm.lenL 0) _ (.inl (bld_below (bld_new w _ rfl) hb1)) (by simp [Lm.lenL]) (by have:=hb1.size;simp at this;omega)).mono ?_
   rintro e w2 ⟨rfl,hbl2,hb2⟩
   have hbw:Below w.heap.size w w2:=(((Below.refl _ _).alloc (Nat.le_refl _) _).trans (hb1.mono (by simp))).trans hb2
   have HBL:Hid (Lib.BuilderAt 100 5 w.heap.size w.heap.size (.pointer (some ⟨w.heap.size,0,none⟩)) (Lib.byteCells (Lm.lenL 0++Lm.body (ss.take 0))) w2):=by
    have h:=hbl2
    rw [List.nil_append] at h
    show Lib.BuilderAt _ _ _ _ _ _ _
    simpa [Lm.body] using h
   clear hbl2 hb2 hb1
   go_wp2_with fail
   go_loopw [17] (fun i wr=>∃ k:Nat,k≤0∧i=.int .i64 k∧(∀ t∈ss.take k,t.length≤65535)∧Hid (Lib.BuilderAt 100 5 w.heap.size w.heap.size (.pointer (some ⟨w.heap.size,0,none⟩)) (Lib.byteCells (Lm.lenL 0++Lm.body (ss.take k))) wr)∧Below w.heap.size w wr)
    (fun i _=>0 - (RowKit.intOf i).toNat)
   case atStart=>exact ⟨0,Nat.zero_le _,rfl,by simp,HBL,hbw⟩
   case round =>
    obtain ⟨k,hk,rfl,hall,HBk,hbk⟩:=hrel
    obtain rfl:k=0:=by omega
    have hlt:¬ (0:Int) < 0:=by omega
    clear hlt
    have hall':∀ t∈ss,t.length≤65535:=by
     have e:ss.take 0=ss:=List.take_of_length_le (by have:=HL.out;omega)
     rwa [e] at hall
    have HF:Hid (Lm.rowL ss=(Lm.lenL 0++Lm.body (ss.take 0),0)):=by
     have e:ss.take 0=ss:=List.take_of_length_le (by have:=HL.out;omega)
     show Lm.rowL ss=_
     unfold Lm.rowL
     rw [if_pos ((Lm.rowOk_iff ss).2 ⟨by have:=HL.out;omega,hall'⟩),e,HL.out]
    have HNE:Hid (Lm.lenL 0++Lm.body (ss.take 0)≠[]):=by
     show _≠_
     have:=Lm.lenL_pos 0
     intro h;have h':=congrArg List.length h;rw [List.length_append,List.length_nil] at h';omega
    clear hall hall'
    go_wp2_with fail
    refine (string_any w.heap.size w.heap.size _ _ HBk.out HNE.out).mono ?_
    rintro e w4 ⟨rfl,hb4⟩
    go_wp2_with fail
    go_ret2
    refine ⟨?_,hbk.trans hb4⟩
    rw [HF.out]
    rfl
  ·go_enter Tryz.func175,Tryz.ntmps175
   go_wp2_with fail
   refine (length_any n hn _).mono ?_
   rintro e w1 ⟨rfl,hb1⟩
   go_wp2_with fail
   refine (write_bytes w.heap.size w.heap.size [] (Lm.lenL n) _ (.inl (bld_below (bld_new w _ rfl) hb1)) (by have:=Lm.lenL_le n;simp;omega) (by have:=hb1.size;simp at this;omega)).mono ?_
   rintro e w2 ⟨rfl,hbl2,hb2⟩
   have hbw:Below w.heap.size w w2:=(((Below.refl _ _).alloc (Nat.le_refl _) _).trans (hb1.mono (by simp))).trans hb2
   have HBL:Hid (Lib.BuilderAt 100 5 w.heap.size w.heap.size (.pointer (some ⟨w.heap.size,0,none⟩)) (Lib.byteCells (Lm.lenL n++Lm.body (ss.take 0))) w2):=by
    have h:=hbl2
    rw [List.nil_append] at h
    show Lib.BuilderAt _ _ _ _ _ _ _
    simpa [Lm.body] using h
   clear hbl2 hb2 hb1
   go_wp2_with fail
   go_loopw [17] (fun i wr=>∃ k:Nat,k≤n∧i=.int .i64 k∧(∀ t∈ss.take k,t.length≤65535)∧Hid (Lib.BuilderAt 100 5 w.heap.size w.heap.size (.pointer (some ⟨w.heap.size,0,none⟩)) (Lib.byteCells (Lm.lenL n++Lm.body (ss.take k))) wr)∧Below w.heap.size w wr)
    (fun i _=>n - (RowKit.intOf i).toNat)
   case atStart=>exact ⟨0,Nat.zero_le _,rfl,by simp,HBL,hbw⟩
   case round =>
    obtain ⟨k,hk,rfl,hall,HBk,hbk⟩:=hrel
    by_cases hlt:k < n
    ·have hks:k < ss.length:=by have:=HL.out;omega
     have hcx:wr.cell? ⟨b,off+k,none⟩=some (.string ⟨ss[k].toArray⟩):=(hbk.cell (p:=⟨b,off+k,none⟩) hblt).trans (HC.out k hks)
     have hle:ss[k].length≤140737488351232:=HLe.out _ (List.getElem_mem hks)
     by_cases hkb:65535 < ss[k].length
     ·have HF:Hid (Lm.rowL ss=([],4)):=by
       show Lm.rowL ss=_
       unfold Lm.rowL
       rw [if_neg]
       rw [Lm.rowOk_iff]
       rintro ⟨-,h⟩
       have:=h _ (List.getElem_mem hks)
       omega
      go_wp2_with fail
      refine (text_big ss[k] (by omega) hkb _).mono ?_
      rintro e w3 ⟨rfl,hb3⟩
      go_wp2_with fail
      go_ret2
      refine ⟨?_,bel_trans hbk hb3⟩
      rw [HF.out]
      rfl
     ·have hln:(Lm.lenL n++Lm.body (ss.take k)).length≤3+65538*65535:=by
       rcases HB.out k with h | h
       ·exact h
       ·exact absurd hall h
      have HT:Hid (ss.take (k+1)=ss.take k++[ss[k]]):=List.take_succ_eq_append_getElem hks
      have hl3:=Lm.lenL_le ss[k].length
      have HLN:Hid ((Lm.lenL n++Lm.body (ss.take k)).length≤3+65538*65535):=hln
      have HALL:Hid (∀ t∈ss.take (k+1),t.length≤65535):=by
       show ∀ t∈ss.take (k+1),t.length≤65535
       rw [HT.out]
       intro t ht
       rcases List.mem_append.1 ht with h | h
       ·exact hall t h
       ·simp at h;subst h;omega
      clear hln hall
      go_wp2_with fail
      refine (text_ok ss[k] hkb _).mono ?_
      rintro e w3 ⟨rfl,hb3⟩
      go_wp2_with fail
      refine (write_bytes w.heap.size w.heap.size (Lm.lenL n++Lm.body (ss.take k)) (Lm.lenL ss[k].length++ss[k]) _ (.inr (bld_below HBk.out hb3)) (by have:=HLN.out;simp only [List.length_append] at this ⊢;omega) (by have:=hb3.size;have:=hbk.size;omega)).mono ?_
      rintro e w4 ⟨rfl,hbl4,hb4⟩
      have HBL4:Hid (Lib.BuilderAt 100 5 w.heap.size w.heap.size (.pointer (some ⟨w.heap.size,0,none⟩)) (Lib.byteCells (Lm.lenL n++Lm.body (ss.take (k+1)))) w4):=by
       show Lib.BuilderAt _ _ _ _ _ _ _
       rw [HT.out,Lm.body_snoc,← List.append_assoc]
       exact hbl4
      have hbk4:Below w.heap.size w w4:=(bel_trans hbk hb3).trans hb4
      clear hbl4 hb4 hb3
      go_wp2_with fail
      go_roundw
      case rel=>exact ⟨k+1,by omega,by go_num,HALL.out,HBL4,hbk4⟩
      case measure=>simp [RowKit.intOf];omega
    ·obtain rfl:k=n:=by omega
     have hall':∀ t∈ss,t.length≤65535:=by
      have e:ss.take k=ss:=List.take_of_length_le (by have:=HL.out;omega)
      rwa [e] at hall
     have HF:Hid (Lm.rowL ss=(Lm.lenL k++Lm.body (ss.take k),0)):=by
      have e:ss.take k=ss:=List.take_of_length_le (by have:=HL.out;omega)
      show Lm.rowL ss=_
      unfold Lm.rowL
      rw [if_pos ((Lm.rowOk_iff ss).2 ⟨by have:=HL.out;omega,hall'⟩),e,HL.out]
     have HNE:Hid (Lm.lenL k++Lm.body (ss.take k)≠[]):=by
      show _≠_
      have:=Lm.lenL_pos k
      intro h;have h':=congrArg List.length h;rw [List.length_append,List.length_nil] at h';omega
     clear hall hall'
     go_wp2_with fail
     refine (string_any w.heap.size w.heap.size _ _ HBk.out HNE.out).mono ?_
     rintro e w4 ⟨rfl,hb4⟩
     go_wp2_with fail
     go_ret2
     refine ⟨?_,hbk.trans hb4⟩
     rw [HF.out]
     rfl
theorem row_good (a:Option Addr) (n cap:Nat) (ss:List (List UInt8)) (w:World) (h:IsStrs w a n ss) (hok:Lm.rowOk ss=true) :
 Calls Tryz.prog 175 #[.slice a n cap] w fun e w'=>e=.returned (.tuple #[.string ⟨(Lm.lenL n++Lm.body ss).toArray⟩,.int .i64 0])∧Below w.heap.size w w':=by
 have:=row_any a n cap ss w h
 unfold Lm.rowL at this
 rw [if_pos hok,h.1] at this
 exact this
end Go.Proofs.YtkkenfhlgpjmjaaGreatDoor
