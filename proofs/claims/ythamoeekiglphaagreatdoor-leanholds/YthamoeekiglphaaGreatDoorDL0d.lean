/-
  Passes in lists, over whatever sum with a key: of no program. What the walk of cartoucheref02.Block keeps: rows of words; the words of a round in its order: of
-/
import Derived.Test.YthamoeekiglphaaGreatDoorDL0c
import Derived.Lib.ConvBytes
import Derived.Laws.AppendOwn
import Derived.KernelRfl
import Derived.Below
import Derived.Deep.CutRange
namespace Go.Proofs.YthamoeekiglphaaGreatDoor
set_option maxRecDepth 100000
set_option linter.unusedVariables false
abbrev mayK (k:List UInt8):Prop:=1≤k.length∧k.length≤32
section
variable (kd:List UInt8→List UInt8→List UInt8)
end
end Go.Proofs.YthamoeekiglphaaGreatDoor
namespace Go.Proofs.YthamoeekiglphaaGreatDoor
set_option maxRecDepth 100000
open Go.RowKit
set_option linter.unusedVariables false
structure Q5 (s t:TypeId) (w0 wa:World) (gv gm gH gZ:Nat) (V M H:List Int):Prop where
 v:Row wa gv s V
 m:Row wa gm s M
 h:Row wa gH t H
 z:Row wa gZ t Z8
 b:Below w0.heap.size w0 wa
theorem Q5.below {s t:TypeId} {w0 wa wb:World} {gv gm gH gZ:Nat} {V M H:List Int} (q:Q5 s t w0 wa gv gm gH gZ V M H) (hb:Below wa.heap.size wa wb):Q5 s t w0 wb gv gm gH gZ V M H :=
 ⟨q.v.below hb,q.m.below hb,q.h.below hb,q.z.below hb,q.b.trans (hb.mono q.b.size)⟩
theorem Q5.alloc {s t:TypeId} {w0 wa:World} {gv gm gH gZ:Nat} {V M H:List Int} (q:Q5 s t w0 wa gv gm gH gZ V M H) (o:Obj):Q5 s t w0 (wa.alloc o) gv gm gH gZ V M H :=
 ⟨q.v.alloc o,q.m.alloc o,q.h.alloc o,q.z.alloc o,q.b.alloc q.b.size o⟩
theorem Q5.setV {s t:TypeId} {w0 wa:World} {gv gm gH gZ:Nat} {V M H:List Int} (q:Q5 s t w0 wa gv gm gH gZ V M H) (V':List Int) (h1:gm≠gv) (h2:gH≠gv) (h3:gZ≠gv) (h4:w0.heap.size≤gv):Q5 s t w0 (wa.setRow gv (wv V')) gv gm gH gZ V' M H :=
 ⟨q.v.setRow V',q.m.setRow_other _ _ h1,q.h.setRow_other _ _ h2,q.z.setRow_other _ _ h3,below_setRow q.b h4 _⟩
theorem Q5.other {s t:TypeId} {w0 wa:World} {gv gm gH gZ:Nat} {V M H:List Int} (q:Q5 s t w0 wa gv gm gH gZ V M H) (g i:Nat) (x:Value) (h0:gv≠g) (h1:gm≠g) (h2:gH≠g) (h3:gZ≠g) (h4:w0.heap.size≤g):Q5 s t w0 (wa.setCell ⟨g,i,none⟩ x) gv gm gH gZ V M H :=
 ⟨q.v.other _ _ _ h0,q.m.other _ _ _ h1,q.h.other _ _ _ h2,q.z.other _ _ _ h3,q.b.setCell (by simpa using h4) _⟩
def wl (M:List Int) (s:Nat→Nat) (k:Nat):List Int:=(List.range 16).map fun i=>if i < k then at_ M (s i) else 0
theorem wl_len (M:List Int) (s:Nat→Nat) (k:Nat):(wl M s k).length=16:=by simp [wl]
theorem wl_set (M:List Int) (s:Nat→Nat) (k:Nat):(wl M s k).set k (at_ M (s k))=wl M s (k+1):=by
 apply List.ext_getElem
 ·simp [wl]
 ·intro i h1 h2
  simp only [List.getElem_set,wl,List.getElem_map,List.getElem_range]
  by_cases h:k=i
  ·subst h;simp
  ·rw [if_neg h]
   by_cases h3:i < k
   ·rw [if_pos h3,if_pos (by omega)]
   ·rw [if_neg h3,if_neg (by omega)]
theorem wl_at (M:List Int) (s:Nat→Nat) (i:Nat) (hi:i < 16):at_ (wl M s 16) i=at_ M (s i):=by
 rw [← at_eq (wl M s 16) i (by rw [wl_len];exact hi)]
 simp [wl,hi]
theorem wl_zero (M:List Int) (s:Nat→Nat):wl M s 0=Z16:=by
 unfold wl Z16
 simp
 rfl
theorem sp_zero (H:List Int):sp H 0=Z16:=by
 unfold sp Z16
 simp
 rfl
theorem rk_step (M V:List Int) (s:Nat→Nat) (k:Nat) (Vp:List Int) (h:rk M V s k=Vp):rk M V s (k+1)=mixL Vp (qa k 0) (qa k 1) (qa k 2) (qa k 3) (at_ M (s (2*k))) (at_ M (s (2*k+1))):=by rw [← h];rfl
theorem sg_lt (r i:Nat) (hr:r < 10) (hi:i < 16):sg r i < 16:=by
 have h:∀ r,r < 10→∀ i,i < 16→sg r i < 16:=by decide +kernel
 exact h r hr i hi
theorem ordL_len (r:Nat) (hr:r < 10):(ordL r).length=16:=by
 have h:∀ r,r < 10→(ordL r).length=16:=by decide +kernel
 exact h r hr
theorem ordL_get (r i:Nat) (hr:r < 10) (h:i < (ordL r).length):(ordL r)[i]'h=fig (sg r i):=by
 have hi:i < 16:=by rw [ordL_len r hr] at h;exact h
 have h1:∀ r,r < 10→∀ i,i < 16→(ordL r)[i]?=some (fig (sg r i)):=by decide +kernel
 have h2:=h1 r hr i hi
 rw [List.getElem?_eq_getElem h] at h2
 exact Option.some.inj h2
attribute [local go_sem] wv_get wv_getE wv_set wv_size
set_option maxHeartbeats 400000 in
theorem turn_16 (x:Int) (w:World) :
 Calls Tryz.prog 137 #[.int .u32 x,.int .u32 16] w fun e w'=>e=.returned (.int .u32 (rot 65536 65536 x))∧w'=w:=by
 go_enter Tryz.func137,Tryz.ntmps137
 go_wp2
 go_ret
 exact ⟨rfl,rfl⟩
set_option maxHeartbeats 400000 in
theorem turn_12 (x:Int) (w:World) :
 Calls Tryz.prog 137 #[.int .u32 x,.int .u32 12] w fun e w'=>e=.returned (.int .u32 (rot 4096 1048576 x))∧w'=w:=by
 go_enter Tryz.func137,Tryz.ntmps137
 go_wp2
 go_ret
 exact ⟨rfl,rfl⟩
set_option maxHeartbeats 400000 in
theorem turn_8 (x:Int) (w:World) :
 Calls Tryz.prog 137 #[.int .u32 x,.int .u32 8] w fun e w'=>e=.returned (.int .u32 (rot 256 16777216 x))∧w'=w:=by
 go_enter Tryz.func137,Tryz.ntmps137
 go_wp2
 go_ret
 exact ⟨rfl,rfl⟩
set_option maxHeartbeats 400000 in
theorem turn_7 (x:Int) (w:World) :
 Calls Tryz.prog 137 #[.int .u32 x,.int .u32 7] w fun e w'=>e=.returned (.int .u32 (rot 128 33554432 x))∧w'=w:=by
 go_enter Tryz.func137,Tryz.ntmps137
 go_wp2
 go_ret
 exact ⟨rfl,rfl⟩
set_option maxHeartbeats 2000000 in
theorem mix_any (V:List Int) (hV:V.length=16) (a b c d:Nat) (ha:a < 16) (hb:b < 16) (hc:c < 16) (hd:d < 16) (x y:Int) (w:World) :
 Calls Tryz.prog 117 #[.agg (wv V),.int .i64 a,.int .i64 b,.int .i64 c,.int .i64 d,.int .u32 x,.int .u32 y] w fun e w'=>e=.returned (.agg (wv (mixL V a b c d x y)))∧Below w.heap.size w w':=by
 have ia:(a:Int) < 16:=by omega
 have ib:(b:Int) < 16:=by omega
 have ic:(c:Int) < 16:=by omega
 have id':(d:Int) < 16:=by omega
 go_enter Tryz.func117,Tryz.ntmps117
 have hl0:=hV
 go_wp2
 refine region_tail 11 (by kernel_rfl) (by kernel_rfl) ?_
 simp only [List.take_succ_cons,List.take_zero,List.drop_succ_cons,List.drop_zero]
 repeat still_step
 refine wpStill_nil ?_
 go_wp2
 obtain ⟨V1,hV1⟩:∃ V1,V.set a (((V[a]+V[b]) % 4294967296+x) % 4294967296)=V1:=⟨_,rfl⟩
 rw [hV1]
 have hl1:V1.length=16:=by rw [← hV1];simpa using hl0
 have H1:Hid (V1=mx1 V a b x):=by rw [← hV1];simp only [at_eq];rfl
 clear hV1
 refine region_tail 10 (by kernel_rfl) (by kernel_rfl) ?_
 simp only [List.take_succ_cons,List.take_zero,List.drop_succ_cons,List.drop_zero]
 repeat still_step
 still_call (turn_16 _ _)
 repeat still_step
 refine wpStill_nil ?_
 go_wp2
 obtain ⟨V2,hV2⟩:∃ V2,V1.set d (rot 65536 65536 (bits BinOp.xor IntKind.u32 V1[d] V1[a]))=V2:=⟨_,rfl⟩
 rw [hV2]
 have hl2:V2.length=16:=by rw [← hV2];simpa using hl1
 have H2:Hid (V2=mx2 65536 65536 V1 d a):=by rw [← hV2];simp only [at_eq];rfl
 clear hV2
 refine region_tail 9 (by kernel_rfl) (by kernel_rfl) ?_
 simp only [List.take_succ_cons,List.take_zero,List.drop_succ_cons,List.drop_zero]
 repeat still_step
 refine wpStill_nil ?_
 go_wp2
 obtain ⟨V3,hV3⟩:∃ V3,V2.set c ((V2[c]+V2[d]) % 4294967296)=V3:=⟨_,rfl⟩
 rw [hV3]
 have hl3:V3.length=16:=by rw [← hV3];simpa using hl2
 have H3:Hid (V3=mx3 V2 c d):=by rw [← hV3];simp only [at_eq];rfl
 clear hV3
 refine region_tail 10 (by kernel_rfl) (by kernel_rfl) ?_
 simp only [List.take_succ_cons,List.take_zero,List.drop_succ_cons,List.drop_zero]
 repeat still_step
 still_call (turn_12 _ _)
 repeat still_step
 refine wpStill_nil ?_
 go_wp2
 obtain ⟨V4,hV4⟩:∃ V4,V3.set b (rot 4096 1048576 (bits BinOp.xor IntKind.u32 V3[b] V3[c]))=V4:=⟨_,rfl⟩
 rw [hV4]
 have hl4:V4.length=16:=by rw [← hV4];simpa using hl3
 have H4:Hid (V4=mx2 4096 1048576 V3 b c):=by rw [← hV4];simp only [at_eq];rfl
 clear hV4
 refine region_tail 11 (by kernel_rfl) (by kernel_rfl) ?_
 simp only [List.take_succ_cons,List.take_zero,List.drop_succ_cons,List.drop_zero]
 repeat still_step
 refine wpStill_nil ?_
 go_wp2
 obtain ⟨V5,hV5⟩:∃ V5,V4.set a (((V4[a]+V4[b]) % 4294967296+y) % 4294967296)=V5:=⟨_,rfl⟩
 rw [hV5]
 have hl5:V5.length=16:=by rw [← hV5];simpa using hl4
 have H5:Hid (V5=mx1 V4 a b y):=by rw [← hV5];simp only [at_eq];rfl
 clear hV5
 refine region_tail 10 (by kernel_rfl) (by kernel_rfl) ?_
 simp only [List.take_succ_cons,List.take_zero,List.drop_succ_cons,List.drop_zero]
 repeat still_step
 still_call (turn_8 _ _)
 repeat still_step
 refine wpStill_nil ?_
 go_wp2
 obtain ⟨V6,hV6⟩:∃ V6,V5.set d (rot 256 16777216 (bits BinOp.xor IntKind.u32 V5[d] V5[a]))=V6:=⟨_,rfl⟩
 rw [hV6]
 have hl6:V6.length=16:=by rw [← hV6];simpa using hl5
 have H6:Hid (V6=mx2 256 16777216 V5 d a):=by rw [← hV6];simp only [at_eq];rfl
 clear hV6
 refine region_tail 9 (by kernel_rfl) (by kernel_rfl) ?_
 simp only [List.take_succ_cons,List.take_zero,List.drop_succ_cons,List.drop_zero]
 repeat still_step
 refine wpStill_nil ?_
 go_wp2
 obtain ⟨V7,hV7⟩:∃ V7,V6.set c ((V6[c]+V6[d]) % 4294967296)=V7:=⟨_,rfl⟩
 rw [hV7]
 have hl7:V7.length=16:=by rw [← hV7];simpa using hl6
 have H7:Hid (V7=mx3 V6 c d):=by rw [← hV7];simp only [at_eq];rfl
 clear hV7
 refine region_tail 10 (by kernel_rfl) (by kernel_rfl) ?_
 simp only [List.take_succ_cons,List.take_zero,List.drop_succ_cons,List.drop_zero]
 repeat still_step
 still_call (turn_7 _ _)
 repeat still_step
 refine wpStill_nil ?_
 have hs8:(V7.set b (rot 128 33554432 (bits BinOp.xor IntKind.u32 V7[b] V7[c]))).length=16:=by simpa using hl7
 have hsz:(Tryz.prog.info? 162).map (·.size)=some 16:=by kernel_rfl
 obtain ⟨V8,hV8⟩:∃ V8,V7.set b (rot 128 33554432 (bits BinOp.xor IntKind.u32 V7[b] V7[c]))=V8:=⟨_,rfl⟩
 go_wp2_with (first | (refine wpList_load_row rfl 162 _ rfl w.heap.size rfl 162 (wv V8) (0,0) _ ?hg Tryz.underlying162 rfl ?hi ?_) | (refine wpList_store_row rfl 162 _ _ rfl (w.heap.size+1) (wv V8) rfl rfl 162 #[Value.int IntKind.u32 0,Value.int IntKind.u32 0,Value.int IntKind.u32 0,Value.int IntKind.u32 0,Value.int IntKind.u32 0,Value.int IntKind.u32 0,Value.int IntKind.u32 0,Value.int IntKind.u32 0,Value.int IntKind.u32 0,Value.int IntKind.u32 0,Value.int IntKind.u32 0,Value.int IntKind.u32 0,Value.int IntKind.u32 0,Value.int IntKind.u32 0,Value.int IntKind.u32 0,Value.int IntKind.u32 0] ?hg2 ?hi2 ?ho2 ?h12 ?_))
 case hg=>exact heap_alloc2_old w _ _
 case hi=>rw [hsz,wv_size,← hV8,hs8]
 case hg2=>exact heap_alloc2_new w _ _
 case hi2=>rw [hsz,wv_size,← hV8,hs8]
 case ho2=>rw [wv_size,← hV8,hs8];rfl
 case h12=>exact wv_one V8
 have HR:Hid (V8=mixL V a b c d x y):=by
  show V8=_
  rw [← hV8]
  simp only [at_eq]
  unfold mixL
  rw [← H1.out,← H2.out,← H3.out,← H4.out,← H5.out,← H6.out,← H7.out]
  rfl
 refine bodyPost_ret (v:=.agg (wv V8)) (results_cell_row Tryz.results117 _ _ (w.heap.size+1) 162 (wv V8) (0,0) _ rfl ?_ Tryz.underlying162 rfl ?_) rfl ⟨by rw [HR.out],?_⟩
 ·exact setRow_heap _ _ _ _ _ _ (heap_alloc2_new w _ _)
 ·rw [hsz,wv_size,← hV8,hs8]
 ·exact below_setRow (Below.drew (Below.drew (Below.drew (Below.drew (Below.drew (Below.drew (Below.drew (Below.drew (((Below.refl _ _).alloc (Nat.le_refl _) _).alloc (by simp) _))))))))) (by omega) _
end Go.Proofs.YthamoeekiglphaaGreatDoor
namespace Go.Proofs.YthamoeekiglphaaGreatDoor
set_option maxRecDepth 100000
open Go.RowKit
set_option maxHeartbeats 400000 in
theorem first_any (w:World):Calls Tryz.prog 89 #[] w fun e w'=>(∃ g,e=.returned (.slice (some ⟨g,0,none⟩) 8 8)∧w.heap.size≤g∧Row w' g 98 firstL)∧Below w.heap.size w w':=by
 go_enter Tryz.func89,Tryz.ntmps89
 go_wp2
 go_ret
 exact ⟨⟨w.heap.size,rfl,Nat.le_refl _,heap_alloc_new w _⟩,(Below.refl _ _).alloc (Nat.le_refl _) _⟩
set_option maxHeartbeats 1000000 in
theorem order_any (r:Nat) (hr:r < 10) (w:World):Calls Tryz.prog 115 #[.int .i64 r] w fun e w'=>e=.returned (.string ⟨(ordL r).toArray⟩)∧Below w.heap.size w w':=by
 have hc:r=0∨r=1∨r=2∨r=3∨r=4∨r=5∨r=6∨r=7∨r=8∨r=9:=by omega
 rcases hc with rfl | rfl | rfl | rfl | rfl | rfl | rfl | rfl | rfl | rfl
 all_goals
  go_enter Tryz.func115,Tryz.ntmps115
  go_wp2
  go_ret
  exact ⟨ret_str (by decide),(Below.refl _ _).alloc (Nat.le_refl _) _⟩
set_option maxHeartbeats 400000 in
theorem figure_any (n:Nat) (hn:n < 16) (w:World):Calls Tryz.prog 116 #[.int .u8 ((fig n).toNat:Int)] w fun e w'=>e=.returned (.int .i64 n)∧w'=w:=by
 by_cases h:n < 10
 ·have e:((fig n).toNat:Int)=48+n:=by unfold fig;rw [if_pos h];simp;omega
  rw [e]
  go_enter Tryz.func116,Tryz.ntmps116
  go_wp2
  go_ret
  exact ⟨ret_int (by omega),rfl⟩
 ·have e:((fig n).toNat:Int)=87+n:=by unfold fig;rw [if_neg h];simp;omega
  rw [e]
  go_enter Tryz.func116,Tryz.ntmps116
  go_wp2
  go_ret
  exact ⟨ret_int (by omega),rfl⟩
def OwnB (w:World) (base:Nat) (e:TypeId) (v:Value) (n:Nat) (xs:List Value):Prop :=
 xs.length=n∧∃ g cap cur fz,v=.slice (some ⟨g,0,none⟩) n cap∧base≤g∧w.heap[g]?=some (.cells cur e fz)∧(∀ i,n≤i→i < cur.size→¬ (fz.1≤i∧i < fz.2))∧n≤cap∧cap≤maxLen∧cap≤cur.size∧cur.toList.take n=xs
theorem store_free (P:Program) (g o:Nat) (t:TypeId) (fz:Nat × Nat):∀ (vs:List Value) (i:Nat) (cur:Array Value) (w:World),w.heap[g]?=some (.cells cur t fz)→(∀ j,o+i≤j→j < cur.size→¬ (fz.1≤j∧j < fz.2))→o+i+vs.length≤cur.size→(∀ v∈vs,v.oneCell'=true) →
 (storeCells ⟨g,o,none⟩ vs i).run P w=.ok () (w.setRow g (cur.toList.take (o+i)++vs++cur.toList.drop (o+i+vs.length)).toArray)
 | [],i,cur,w,hg,_,_,_=>by
   simp only [storeCells,List.append_nil,List.length_nil,Nat.add_zero,List.take_append_drop,Array.toArray_toList]
   rw [setRow_self w g cur t fz hg]
   rfl
 | v::rest,i,cur,w,hg,hfz,hl,h1=>by
   have hi:o+i < cur.size:=by simp at hl;omega
   have hadd:(⟨g,o,none⟩:Addr).add i=⟨g,o+i,none⟩:=by unfold Addr.add;split<;>simp_all
   have hcell:w.cell? ⟨g,o+i,none⟩=some cur[o+i]:=by simp [World.cell?,hg,hi]
   have hfro:w.frozen? ⟨g,o+i,none⟩=false:=by
    have hn:=hfz (o+i) (Nat.le_refl _) hi
    obtain ⟨lo,up⟩:=fz
    simp only [World.frozen?,hg,Bool.and_eq_false_iff,decide_eq_false_iff_not]
    simp only at hn
    omega
   have hst:(store ((⟨g,o,none⟩:Addr).add i) v).run P w=.ok () (w.setRow g (cur.setIfInBounds (o+i) v)):=by
    rw [hadd,run_store P w _ v _ (h1 v (by simp)),hcell]
    simp [hfro,setCell_eq_setRow w g (o+i) cur t fz v hg]
   have ih:=store_free P g o t fz rest (i+1) (cur.setIfInBounds (o+i) v) (w.setRow g (cur.setIfInBounds (o+i) v)) (setRow_heap w g cur _ t _ hg) (fun j h2 h3=>hfz j (by omega) (by simpa using h3)) (by simp at hl ⊢;omega) (fun x hx=>h1 x (by simp [hx]))
   simp only [storeCells,Sem.run_bind,hst,Result.andThen_ok,ih,setRow_setRow]
   congr 3
   have e:=list_seg_step cur.toList (o+i) v rest (by simp at hl ⊢;omega)
   simpa [Array.toList_setIfInBounds,Nat.add_assoc] using e
theorem ownB_of_bytes (w:World) (e:TypeId) (s:ByteArray) (hs:s.size≤maxLen):OwnB (Lib.bytesWorld w e s) w.heap.size e (.slice (some ⟨w.heap.size,0,none⟩) s.size (grownCap w s.size 0 e)) s.size (Lib.strCells s):=by
 refine ⟨Lib.strCells_length s,w.heap.size,_,_,_,rfl,Nat.le_refl _,Lib.bytesWorld_at_new w e s,?_,grownCap_ge w s.size 0 e,grownCap_le_maxLen w s.size 0 e hs,?_,?_⟩
 ·intro i _ h;simp only;omega
 ·have:=grownCap_ge w s.size 0 e
  simp [Lib.bytesCells];omega
 ·simp [Lib.bytesCells,Lib.strCells]
theorem OwnB.lt {w:World} {base:Nat} {e:TypeId} {v:Value} {n:Nat} {xs:List Value} (h:OwnB w base e v n xs):∀ k,v.ownBlock=some k→base≤k∧k < w.heap.size:=by
 obtain ⟨h1,g,cap,cur,fz,rfl,hbg,hg,r⟩:=h
 intro k hk
 simp [Value.ownBlock] at hk
 subst hk
 exact ⟨hbg,(Array.getElem?_eq_some_iff.1 hg).1⟩
theorem OwnB.string {P:Program} {w:World} {base:Nat} {e:TypeId} {v:Value} {n:Nat} {l:List UInt8} (h:OwnB w base e v n (Lib.byteCells l)) (src dst:TypeId) (hs:P.underlying src=some (.slice e)) (he:P.underlying e=some (.int .u8)) (hd:P.underlying dst=some .string) :
 (convert src dst v).run P w=.ok (.string ⟨l.toArray⟩) w:=by
 obtain ⟨h1,g,cap,cur,fz,rfl,hbg,hg,-,-,-,hcs,htake⟩:=h
 rw [Lib.byteCells_length] at h1
 subst h1
 refine run_convert_bytes_back (P:=P) w src dst e ⟨g,0,none⟩ cap l hs he hd (fun j hj=>?_)
 have hadd:(⟨g,0,none⟩:Addr).add j=⟨g,j,none⟩:=by unfold Addr.add;split<;>simp_all
 rw [hadd]
 have e1:cur.toList[j]?=(Lib.byteCells l)[j]?:=by rw [← htake,List.getElem?_take_of_lt hj]
 simp only [World.cell?,hg]
 rw [← Array.getElem?_toList,e1]
 simp [Lib.byteCells,hj]
theorem bytesWorld_bel (w:World) (e:TypeId) (s:ByteArray):Below w.heap.size w (Lib.bytesWorld w e s) :=
 ⟨rfl,rfl,rfl,by rw [Lib.bytesWorld_size];omega,fun k hk=>Lib.bytesWorld_at_old w e s k hk⟩
set_option linter.unusedVariables false
theorem run_appendBS {P:Program} (w:World) (base:Nat) (t ty e:TypeId) (i:TypeInfo) (ht:P.underlying t=some (.slice e)) (hi:P.info? e=some i) (hz:i.zero=some (.int .u8 0))
 (hsize:i.size=1) (hby:i.bytes=1) (v:Value) (n:Nat) (xs:List Value) (hown:OwnB w base e v n xs) (ad:Addr) (m c:Nat) (news:List Value) (hl:news.length=m)
 (hnews:∀ j u,news[j]?=some u→w.cell? (ad.add j)=some u) (h1:∀ u∈news,u.oneCell'=true) (h63:n+m≤maxLen) (hbytes:n+m≤140737488355328) (hbase:base≤w.heap.size) :
 ∃ v' w',(Builtin.append_ #[t,t] ty #[v,.slice (some ad) m c]).run P w=.ok v' w'∧OwnB w' base e v' (n+m) (xs++news)∧w.grownBy w' v.ownBlock:=by
 obtain ⟨hxl,g,cap,cur,fz,rfl,hbg,hg,hfz,hnc,hcm,hcs,htake⟩:=hown
 have hlen:(xs++news).length=n+m:=by rw [List.length_append,hxl,hl]
 by_cases hroom:n+m≤cap
 ·have hf:=run_firstCells_some (P:=P) w 1 m ad m c news (by omega) hnews
  have hst:=store_free P g n e fz news 0 cur w hg (fun j h2 h3=>hfz j (by omega) h3) (by omega) h1
  simp only [Nat.add_zero,hl] at hst
  have hr:(Builtin.append_ #[t,t] ty #[.slice (some ⟨g,0,none⟩) n cap,.slice (some ad) m c]).run P w =
   .ok (.slice (some ⟨g,0,none⟩) (n+m) cap) (w.setRow g (cur.toList.take n++news++cur.toList.drop (n+m)).toArray):=by
   simp [Builtin.append_,run_underlying ht,sizeOf,typeInfo,hi,hsize,Builtin.lenOf,hroom,hf,Addr.add_lit,hst]
  have hsz:(cur.toList.take n++news++cur.toList.drop (n+m)).toArray.size=cur.size:=by
   simp only [List.size_toArray,List.length_append,List.length_take,List.length_drop,Array.length_toList,hl]
   omega
  refine ⟨_,_,hr,⟨hlen,g,cap,_,fz,rfl,hbg,setRow_heap w g cur _ e _ hg,?_,hroom,hcm,?_,?_⟩,⟨rfl,rfl,rfl,by simp,fun k _ hk=>setRow_other w g k _ (fun e=>hk (by simp [Value.ownBlock,e]))⟩⟩
  ·intro j h2 h3
   rw [hsz] at h3
   exact hfz j (by omega) h3
  ·rw [hsz];exact hcs
  ·rw [htake,← hlen]
   exact List.take_left
 ·have holds:∀ j u,xs[j]?=some u→w.cell? ((⟨g,0,none⟩:Addr).add j)=some u:=by
   intro j u hj
   have hadd:(⟨g,0,none⟩:Addr).add j=⟨g,j,none⟩:=by unfold Addr.add;split<;>simp_all
   rw [hadd]
   have hjl:j < n:=by have:=(List.getElem?_eq_some_iff.1 hj).1;omega
   rw [← htake,List.getElem?_take_of_lt hjl] at hj
   simp only [World.cell?,hg]
   simpa using hj
  have hr:=run_append_grow (P:=P) w t ty e i (.int .u8 0) ht hi hz ⟨g,0,none⟩ n cap xs (by rw [hsize];simpa using hxl) holds ad m c news (by rw [hsize];simpa using hl) hnews (by omega) (by unfold maxLen at h63;omega) (by rw [hby];exact growslice_fits (by omega) (by omega))
  have hge:=grownCap_ge w (n+m) cap e
  have hcm2:grownCap w (n+m) cap e≤maxLen:=grownCap_le_maxLen w (n+m) cap e h63
  refine ⟨_,_,hr,⟨hlen,w.heap.size,_,_,(0,0),rfl,hbase,heap_alloc_new w.drew _,?_,hge,hcm2,?_,?_⟩,⟨rfl,rfl,rfl,by simp,fun k hk _=>heap_alloc_old w.drew _ hk⟩⟩
  ·intro j _ _;simp
  ·have hz1:(Value.int IntKind.u8 0).cells.size=1:=rfl
   simp only [Array.size_append,List.size_toArray,size_zeroCells,hz1,hxl,hl]
   omega
  ·simp only [Array.toList_append,List.append_assoc]
   rw [← List.append_assoc,← hlen]
   exact List.take_left
theorem wpList_appendBS {P:Program} (w:World) {ops:Array Oper} {rest:List Oper} {o:Oper} {a:Act} {Q:Exit→Act→World→Prop} (hgd:o.guard=none) (sl x:Operand) (t:TypeId)
 (ho:o.op=.call { callee:=.builtin .append,args:=#[sl,x],argTypes:=#[t,t] })
 (base:Nat) (e:TypeId) (i:TypeInfo) (ht:P.underlying t=some (.slice e)) (hi:P.info? e=some i) (hz:i.zero=some (.int .u8 0)) (hsize:i.size=1) (hby:i.bytes=1)
 (v:Value) (n:Nat) (xs:List Value) (hs:a.eval sl=v) (hown:OwnB w base e v n xs) (ad:Addr) (m c:Nat) (news:List Value) (hx:a.eval x=.slice (some ad) m c) (hl:news.length=m)
 (hnews:∀ j u,news[j]?=some u→w.cell? (ad.add j)=some u) (h1:∀ u∈news,u.oneCell'=true)
 (h63:n+m≤maxLen) (hbytes:n+m≤140737488355328) (hbase:base≤w.heap.size)
 (h:∀ v' w',OwnB w' base e v' (n+m) (xs++news)→w.grownBy w' v.ownBlock→wpList P ops Q rest (a.put o.dst v') w'):wpList P ops Q (o::rest) a w:=by
 refine wpList_plain hgd fun K hK=>?_
 obtain ⟨v',w',hr,h2,h3⟩:=run_appendBS (P:=P) w base t o.type e i ht hi hz hsize hby v n xs hown ad m c news hl hnews h1 h63 hbytes hbase
 unfold Oper.wp execOp
 simp only [ho,resolve,invoke,builtin,Sem.run_bind,Sem.run_pure,Result.andThen_ok,List.map_toArray,List.map_cons,List.map_nil,hs,hx,hr]
 exact hK _ _ (h v' w' h2 h3)
theorem OwnB.alloc {w:World} {base:Nat} {e:TypeId} {v:Value} {n:Nat} {xs:List Value} (h:OwnB w base e v n xs) (o:Obj):OwnB (w.alloc o) base e v n xs:=by
 obtain ⟨h1,g,cap,cur,fz,hv,hbg,hg,r⟩:=h
 have hlt:g < w.heap.size:=(Array.getElem?_eq_some_iff.1 hg).1
 exact ⟨h1,g,cap,cur,fz,hv,hbg,(heap_alloc_old w o hlt).trans hg,r⟩
theorem OwnB.slice {w:World} {base:Nat} {e:TypeId} {v:Value} {n:Nat} {xs:List Value} (h:OwnB w base e v n xs):∃ g cap,v=.slice (some ⟨g,0,none⟩) n cap∧base≤g∧g < w.heap.size:=by
 obtain ⟨h1,g,cap,cur,fz,hv,hbg,hg,r⟩:=h
 exact ⟨g,cap,hv,hbg,(Array.getElem?_eq_some_iff.1 hg).1⟩
theorem owns_string {P:Program} {w:World} {base:Nat} {e:TypeId} {v:Value} {n:Nat} {l:List UInt8} (h:w.ownsRow base e 1 v n (Lib.byteCells l)) (hl:0 < l.length) (src dst:TypeId) (hs:P.underlying src=some (.slice e)) (he:P.underlying e=some (.int .u8)) (hd:P.underlying dst=some .string) :
 (convert src dst v).run P w=.ok (.string ⟨l.toArray⟩) w:=by
 have h0:=h
 obtain ⟨h1,h2⟩:=h
 rw [Lib.byteCells_length,Nat.mul_one] at h1
 subst h1
 rcases h2 with ⟨rfl,hn⟩ | ⟨g,cap,cur,rfl,hbg,hg,r⟩
 ·omega
 ·refine run_convert_bytes_back (P:=P) w src dst e ⟨g,0,none⟩ cap l hs he hd (fun j hj=>?_)
  exact h0.cells (g:=g) rfl j _ (by simp [Lib.byteCells,hj])
theorem byte_info:(Tryz.prog.info? 5).map (fun i=>(i.zero,i.size,i.bytes))=some (some (.int .u8 0),1,1):=by kernel_rfl
theorem xor_rng (a b:Int):0≤bits .xor .u32 a b∧bits .xor .u32 a b < 4294967296:=by
 show 0≤IntKind.u32.wrap ((BitVec.ofInt 32 a ^^^ BitVec.ofInt 32 b).toNat:Int)∧IntKind.u32.wrap ((BitVec.ofInt 32 a ^^^ BitVec.ofInt 32 b).toNat:Int) < 4294967296
 rw [IntKind.wrap_u32']
 omega
theorem hx_rng (H V:List Int) (i:Nat) (hi:i < 8):0≤at_ (hx H V 8) i∧at_ (hx H V 8) i < 4294967296:=by
 have e:at_ (hx H V 8) i=bits .xor .u32 (at_ H i) (bits .xor .u32 (at_ V i) (at_ V (i+8))):=by
  rw [← at_eq (hx H V 8) i (by rw [hx_len];exact hi)]
  simp [hx,hi]
 rw [e]
 exact xor_rng _ _
theorem foldL_rng (H:List Int) (S:List UInt8) (i:Nat) (hi:i < 8):0≤at_ (foldL H S) i∧at_ (foldL H S) i < 4294967296:=hx_rng _ _ i hi
theorem padL_step (P:List UInt8) (h:P.length < 64):padL (P++[0])=padL P:=by
 unfold padL
 rw [List.append_assoc]
 congr 1
 rw [show 64 - P.length=(64 - (P++[0]).length)+1 by simp;omega,List.replicate_succ];rfl
theorem padL_full (P:List UInt8) (h:P.length=64):padL P=P:=by simp [padL,h]
attribute [local go_sem] ba_size ba_get
def vlen:Value→Nat
 | .slice _ n _=>n
 | _=>0
set_option maxHeartbeats 1000000 in
theorem rpad_any (S:List UInt8) (hS:S.length≤64) (w:World) :
 Calls Tryz.prog 91 #[.string ⟨S.toArray⟩] w fun e w'=>e=.returned (.string ⟨(padL S).toArray⟩)∧Below w.heap.size w w':=by
 obtain ⟨i0,hi,hz0,hz1,hz2⟩:=info_parts byte_info
 have hcv:=Lib.run_convert_string_bytes (P:=Tryz.prog) w 9 94 5 ⟨S.toArray⟩ Tryz.underlying9 Tryz.underlying94 Tryz.underlying5
 have HO0:OwnB (Lib.bytesWorld w 5 ⟨S.toArray⟩) w.heap.size 5 (.slice (some ⟨w.heap.size,0,none⟩) S.length (grownCap w S.length 0 5)) S.length (Lib.byteCells S):=by
  have h:=ownB_of_bytes w 5 ⟨S.toArray⟩ (by rw [ba_size];unfold maxLen;omega)
  rw [strCells_list,ba_size] at h
  exact h
 rw [ba_size] at hcv
 have hb0:=bytesWorld_bel w 5 ⟨S.toArray⟩
 go_enter Tryz.func91,Tryz.ntmps91
 go_wp2_with fail
 obtain ⟨w1,hw1⟩:∃ w1,Lib.bytesWorld w 5 ⟨S.toArray⟩=w1:=⟨_,rfl⟩
 rw [hw1] at HO0 hb0 ⊢
 clear hw1 hcv
 go_loopw [3] (fun v wr=>∃ P:List UInt8,P.length≤64∧Hid (padL P=padL S)∧Hid (OwnB wr w.heap.size 5 v P.length (Lib.byteCells P))∧Below w.heap.size w wr) (fun v _=>64 - vlen v)
 case atStart=>exact ⟨S,hS,(rfl:_=_),HO0,hb0⟩
 case round =>
  obtain ⟨P,hP,hp,HO,hbw⟩:=hrel
  obtain ⟨g,cap,rfl,hg1,hg2⟩:=HO.out.slice
  have hbs:=hbw.size
  by_cases hlt:P.length < 64
  ·have i0':(P.length:Int) < 64:=by omega
   go_wp2_with (at_builtin;refine wpList_appendBS _ rfl _ _ 94 rfl w.heap.size 5 i0 Tryz.underlying94 hi hz0 hz1 hz2 _ _ _ rfl (HO.out.alloc _) ⟨wr.heap.size,0,none⟩ 1 1 [.int .u8 0] rfl rfl ?d1 ?d2 ?d3 ?d4 ?d5 ?_)
   case d1 =>
    intro j u hj
    match j,hj with
    | 0,hj=>simp at hj;subst hj;simp [Addr.add]
   case d2=>intro u hu;simp at hu;subst hu;rfl
   case d3=>unfold maxLen;omega
   case d4=>omega
   case d5=>simp;omega
   intro v' w2 hown' hgrow
   obtain ⟨g',cap',rfl,hg3,hg4⟩:=hown'.slice
   have hbn:Below w.heap.size w w2:=(hbw.alloc hbs _).grown hgrow (by simp;omega) (fun j hj=>(HO.out.lt j hj).1)
   go_wp2_with fail
   refine ⟨?relP,?measureP⟩
   case relP =>
    refine ⟨P++[0],by simp;omega,(padL_step P hlt).trans hp.out,?_,hbn⟩
    have e:Lib.byteCells (P++[0])=Lib.byteCells P++[.int .u8 0]:=by simp [Lib.byteCells]
    rw [e,List.length_append]
    exact hown'
   case measureP=>simp [vlen];omega
  ·have hP64:P.length=64:=by omega
   have i0':¬ (P.length:Int) < 64:=by omega
   have hst:=HO.out.string (P:=Tryz.prog) 94 9 Tryz.underlying94 Tryz.underlying5 Tryz.underlying9
   rw [hP64] at hst
   go_wp2_with fail
   go_ret
   exact ⟨by rw [← hp.out,padL_full P hP64];rfl,hbw⟩
end Go.Proofs.YthamoeekiglphaaGreatDoor
namespace Go.Proofs.YthamoeekiglphaaGreatDoor
set_option maxRecDepth 100000
open Go.RowKit
set_option linter.unusedVariables false
attribute [local go_sem] wv_get wv_getE wv_set wv_size
def fsp (k:Nat):List Int:=(List.range 8).map fun i=>if i < k then at_ firstL i else 0
theorem fsp_len (k:Nat):(fsp k).length=8:=by simp [fsp]
theorem fsp_set (k:Nat):(fsp k).set k (at_ firstL k)=fsp (k+1):=by
 apply List.ext_getElem
 ·simp [fsp]
 ·intro i h1 h2
  simp only [List.getElem_set,fsp,List.getElem_map,List.getElem_range]
  by_cases h:k=i
  ·subst h;simp
  ·rw [if_neg h]
   by_cases h3:i < k
   ·rw [if_pos h3,if_pos (by omega)]
   ·rw [if_neg h3,if_neg (by omega)]
theorem fsp_8:fsp 8=firstL:=by decide
set_option maxHeartbeats 1000000 in
theorem rstart_good (k:Int) (h0:0≤k) (h1:k≤32) (w:World) :
 Calls Tryz.prog 57 #[.int .i64 k] w fun e w'=>e=.returned (.tuple #[.agg (wv (startL k)),.int .i64 0])∧Below w.heap.size w w':=by
 go_enter Tryz.func57,Tryz.ntmps57
 go_wp2_with fail
 refine (first_any _).mono ?_
 rintro e w1 ⟨⟨g,rfl,hg,hrf⟩,hb1⟩
 have hs1:w.heap.size+2≤g:=by simpa using hg
 have hZ1:Row w1 w.heap.size 99 Z8:=(hb1.block _ (by simp;omega)).trans (heap_alloc2_old w _ _)
 have hF1:Row w1 (w.heap.size+1) 99 (fsp 0):=(hb1.block _ (by simp)).trans (heap_alloc2_new w _ _)
 have hbw1:Below w.heap.size w w1:=(((Below.refl _ _).alloc (Nat.le_refl _) _).alloc (by simp) _).trans (hb1.mono (by simp;omega))
 clear hb1
 go_wp2_with fail
 go_loopw [6] (fun i wr=>∃ j:Nat,j≤8∧i=.int .i64 j∧Hid (Row wr w.heap.size 99 Z8)∧Hid (Row wr (w.heap.size+1) 99 (fsp j))∧Hid (Row wr g 98 firstL)∧Below w.heap.size w wr) (fun i _=>8 - (RowKit.intOf i).toNat)
 case atStart=>exact ⟨0,by omega,rfl,hZ1,hF1,hrf,hbw1⟩
 case round =>
  obtain ⟨j,hj,rfl,HZ,HF,HL,hbw⟩:=hrel
  by_cases hlt:j < 8
  ·have i0:(j:Int) < 8:=by omega
   have lf:=fsp_len j
   have c0:wr.cell? ⟨g,j,none⟩=some (.int .u32 (at_ firstL j)):=by rw [HL.out.cell j (by simpa [firstL] using hlt),at_eq]
   have c1:=HF.out.cell j (by omega)
   have f1:=HF.out.frozen j
   go_wp2_with fail
   go_roundw
   case rel =>
    refine ⟨j+1,by omega,by go_num,HZ.out.other _ _ _ (by omega),?_,HL.out.other _ _ _ (by omega),hbw.setCell (by simp) _⟩
    rw [← fsp_set j]
    exact HF.out.set j _
   case measure=>simp [RowKit.intOf];omega
  ·obtain rfl:j=8:=by omega
   have hL:Row wr (w.heap.size+1) 99 firstL:=by rw [← fsp_8];exact HF.out
   have c0:wr.cell? ⟨w.heap.size+1,0,none⟩=some (.int .u32 (at_ firstL 0)):=by rw [hL.cell 0 (by decide),at_eq]
   have f0:=hL.frozen 0
   have x0:IntKind.i64.wrap (256*k)=256*k:=by rw [IntKind.wrap_i64];omega
   have x1:IntKind.u32.wrap (256*k)=256*k:=by rw [IntKind.wrap_u32'];omega
   obtain ⟨R,hR⟩:∃ R,startL k=R:=⟨_,rfl⟩
   have lR:R.length=8:=by rw [← hR];rfl
   go_wp2_with (first | (refine wpList_load_row rfl 99 _ rfl (w.heap.size+1) rfl 99 (wv R) (0,0) _ ?hg3 Tryz.underlying99 rfl ?hi3 ?_) | (refine wpList_store_row rfl 99 _ _ rfl w.heap.size (wv R) rfl rfl 99 (wv Z8) ?hg4 ?hi4 ?ho4 ?h14 ?_))
   case hg3=>rw [← hR];unfold startL;rw [← xor_assoc32];exact hL.set 0 _
   case hi3=>rw [psize8,wv_size,lR]
   case hg4=>exact HZ.out.other _ _ _ (by omega)
   case hi4=>rw [psize8,wv_size,lR]
   case ho4=>rw [wv_size,wv_size,lR];rfl
   case h14=>exact wv_one _
   refine bodyPost_ret (v:=.tuple #[.agg (wv R),.int .i64 0]) (results_row_tmp Tryz.results57 _ _ w.heap.size 99 (wv R) (0,0) _ rfl ?_ Tryz.underlying99 rfl ?_) rfl ⟨by first | rfl | rw [hR],?_⟩
   ·exact setRow_heap _ _ _ _ _ _ (HZ.out.other _ _ _ (by omega))
   ·rw [psize8,wv_size,lR]
   ·exact below_setRow (hbw.setCell (by simp) _) (by omega) _
end Go.Proofs.YthamoeekiglphaaGreatDoor
namespace Go.Proofs.YthamoeekiglphaaGreatDoor
set_option maxRecDepth 100000
open Go.RowKit
theorem conv_row (W:World) (C:Array Value) (t:TypeId) (off n cap:Nat) (xs:List Int) (hn:xs.length=n) (hc:∀ i,i < n→C[off+i]?=some (.int .u8 (xs.getD i 0))) :
 (convert 94 9 (.slice (some ⟨W.heap.size,off,none⟩) n cap)).run Tryz.prog (W.alloc (.cells C t))=.ok (.string (strOfNums xs)) (W.alloc (.cells C t)) :=
 run_convert_bytes_arg (P:=Tryz.prog) (W.alloc (.cells C t)) 94 5 (by kernel_rfl) (by kernel_rfl) W.heap.size off n cap xs hn (fun i hi=>by rw [World.cell?_alloc_new];exact hc i hi) 9 (by kernel_rfl)
theorem conv1 (W:World) (x:Int) (t:TypeId) :
 (convert 94 9 (.slice (some ⟨W.heap.size,0,none⟩) 1 1)).run Tryz.prog (W.alloc (.cells #[.int .u8 x] t))=.ok (.string ⟨[UInt8.ofNat x.toNat].toArray⟩) (W.alloc (.cells #[.int .u8 x] t)) :=
 conv_row W _ t 0 1 1 [x] rfl (fun i hi=>by obtain rfl:i=0:=by omega
                                            rfl)
theorem conv3 (W:World) (x y z:Int) (t:TypeId) :
 (convert 94 9 (.slice (some ⟨W.heap.size,0,none⟩) 3 3)).run Tryz.prog (W.alloc (.cells #[.int .u8 x,.int .u8 y,.int .u8 z] t))=.ok (.string ⟨[UInt8.ofNat x.toNat,UInt8.ofNat y.toNat,UInt8.ofNat z.toNat].toArray⟩) (W.alloc (.cells #[.int .u8 x,.int .u8 y,.int .u8 z] t)) :=
 conv_row W _ t 0 3 3 [x,y,z] rfl (fun i hi=>by
  have:i=0∨i=1∨i=2:=by omega
  rcases this with rfl | rfl | rfl<;>rfl)
theorem conv3_1 (W:World) (x y z:Int) (t:TypeId) :
 (convert 94 9 (.slice (some ⟨W.heap.size,2,none⟩) 1 1)).run Tryz.prog (W.alloc (.cells #[.int .u8 x,.int .u8 y,.int .u8 z] t))=.ok (.string ⟨[UInt8.ofNat z.toNat].toArray⟩) (W.alloc (.cells #[.int .u8 x,.int .u8 y,.int .u8 z] t)) :=
 conv_row W _ t 2 1 1 [z] rfl (fun i hi=>by obtain rfl:i=0:=by omega
                                            rfl)
theorem nums_short (n:Nat) (h:n≤250):(⟨[UInt8.ofNat n].toArray⟩:ByteArray)=⟨(Lm.lenL n).toArray⟩:=by
 simp [Lm.lenL,h]
theorem nums_long (n:Nat) (h:¬ n≤250):(⟨[251,UInt8.ofNat ((n:Int) / 256).toNat,UInt8.ofNat ((n:Int) % 256).toNat].toArray⟩:ByteArray)=⟨(Lm.lenL n).toArray⟩:=by
 have e1:((n:Int) / 256).toNat=n / 256:=by omega
 have e2:((n:Int) % 256).toNat=n % 256:=by omega
 simp only [Lm.lenL,h,if_false,e1,e2]
attribute [local go_sem] ba_size ba_get ba_extract ba_append wrap_byte wrap_u64_byte take_drop_end
set_option maxHeartbeats 400000 in
theorem size_any (n:Nat) (hn:n≤65535) (w:World) :
 Calls Tryz.prog 88 #[.int .i64 n] w fun e w'=>e=.returned (.string ⟨(Lm.lenL n).toArray⟩)∧Below w.heap.size w w':=by
 have c1:=conv1
 have c3:=conv3
 by_cases h:n≤250
 ·go_enter Tryz.func88,Tryz.ntmps88
  go_wp2
  go_ret
  exact ⟨ret_str (nums_short n h),(Below.refl _ _).alloc (Nat.le_refl _) _⟩
 ·go_enter Tryz.func88,Tryz.ntmps88
  go_wp2
  go_ret
  exact ⟨ret_str (nums_long n h),(Below.refl _ _).alloc (Nat.le_refl _) _⟩
set_option maxHeartbeats 400000 in
theorem refText_any (l:List UInt8) (hl:l.length≤9223372036854775807) (w:World) :
 Calls Tryz.prog 55 #[.string ⟨l.toArray⟩] w fun e w'=>e=.returned (.tuple #[.string ⟨(Lm.textL l).1.toArray⟩,.int .i64 ((Lm.textL l).2:Int)])∧Below w.heap.size w w':=by
 unfold Lm.textL
 by_cases h:65535 < l.length
 ·rw [if_pos h]
  go_enter Tryz.func55,Tryz.ntmps55
  go_wp2
  go_ret2
  exact ⟨rfl,Below.refl _ _⟩
 ·rw [if_neg h]
  go_enter Tryz.func55,Tryz.ntmps55
  go_wp2_with fail
  refine (size_any l.length (by omega) _).mono ?_
  rintro e w1 ⟨rfl,hb1⟩
  have hll:=Lm.lenL_le l.length
  go_wp2_with fail
  go_ret2
  exact ⟨rfl,hb1⟩
theorem refText_ok (l:List UInt8) (h:¬ 65535 < l.length) (w:World) :
 Calls Tryz.prog 55 #[.string ⟨l.toArray⟩] w fun e w'=>e=.returned (.tuple #[.string ⟨(Lm.lenL l.length++l).toArray⟩,.int .i64 0])∧Below w.heap.size w w':=by
 have:=refText_any l (by omega) w
 unfold Lm.textL at this
 rw [if_neg h] at this
 exact this
end Go.Proofs.YthamoeekiglphaaGreatDoor
namespace Go.Proofs.YthamoeekiglphaaGreatDoor
set_option maxRecDepth 100000
open Go.RowKit
set_option linter.unusedVariables false
attribute [local go_sem] ba_size ba_append
theorem conv2 (W:World) (x y:Int) (t:TypeId) :
 (convert 94 9 (.slice (some ⟨W.heap.size,0,none⟩) 2 2)).run Tryz.prog (W.alloc (.cells #[.int .u8 x,.int .u8 y] t))=.ok (.string ⟨[UInt8.ofNat x.toNat,UInt8.ofNat y.toNat].toArray⟩) (W.alloc (.cells #[.int .u8 x,.int .u8 y] t)) :=
 conv_row W _ t 0 2 2 [x,y] rfl (fun i hi=>by
  have:i=0∨i=1:=by omega
  rcases this with rfl | rfl<;>rfl)
abbrev evA (x:Ev):Value:=.agg #[.int .i64 x.1,.int .i64 x.2.1,.string ⟨x.2.2.1.toArray⟩,.string ⟨x.2.2.2.toArray⟩]
theorem bytesE_no (x:Ev) (h:¬ mayE x):bytesE x=([],1):=by unfold bytesE;rw [if_neg h]
theorem bytesE_ok (x:Ev) (h:mayE x):bytesE x=(bytE x,0):=by unfold bytesE;rw [if_pos h]
set_option maxHeartbeats 1000000 in
theorem rbytes6_any (k t:Int) (a b:List UInt8) (w:World) :
 Calls Tryz.prog 24 #[evA (k,t,a,b)] w fun e w'=>e=.returned (.tuple #[.string ⟨(bytesE (k,t,a,b)).1.toArray⟩,.int .i64 ((bytesE (k,t,a,b)).2:Int)])∧Below w.heap.size w w':=by
 have al:∀ o,Below w.heap.size w (w.alloc o):=fun o=>(Below.refl _ w).alloc (Nat.le_refl _) o
 have M:Hid (∀ W,Calls Tryz.prog 31 #[.agg #[.int .i64 k,.int .i64 t,.string ⟨a.toArray⟩,.string ⟨b.toArray⟩]] W fun e w'=>e=.returned (.bool (decide (mayE (k,t,a,b))))∧Below W.heap.size W w'):=fun W=>rmay_any k t a b W
 have c2:=conv2
 by_cases hm:mayE (k,t,a,b)
 ·rw [decide_eq_true hm] at M
  rw [bytesE_ok _ hm]
  obtain ⟨⟨k1,k2,t1,t2⟩,hr⟩:=hm
  simp only at k1 k2 t1 t2 hr
  have u1:IntKind.u8.wrap k=k:=by rw [IntKind.wrap_u8];omega
  have u2:IntKind.u8.wrap t=t:=by rw [IntKind.wrap_u8];omega
  by_cases hk:keyedE k
  ·rw [if_pos hk] at hr
   have HE:Hid (bytE (k,t,a,b)=[UInt8.ofNat k.toNat,UInt8.ofNat t.toNat]++(Lm.lenL a.length++a)++(Lm.lenL b.length++b)):=by
    show _=_
    unfold bytE txtE
    simp only
    rw [if_pos hk]
    simp
   have T1:=fun W=>refText_ok a (by omega) W
   have T2:=fun W=>refText_ok b (by omega) W
   have l1:=Lm.lenL_le a.length
   have l2:=Lm.lenL_le b.length
   have z1:(Lm.lenL a.length++a).length≤65538:=by rw [List.length_append];omega
   have z2:(Lm.lenL b.length++b).length≤65538:=by rw [List.length_append];omega
   obtain ⟨x,hx⟩:∃ x,Lm.lenL a.length++a=x:=⟨_,rfl⟩
   obtain ⟨y,hy⟩:∃ x,Lm.lenL b.length++b=x:=⟨_,rfl⟩
   rw [hx] at T1 HE z1
   rw [hy] at T2 HE z2
   rw [HE.out]
   clear hx hy l1 l2 hr
   have z3:2+x.length≤9223372036854775807:=by omega
   have z4:2+x.length+y.length≤9223372036854775807:=by omega
   unfold keyedE at hk
   rcases hk with rfl | rfl
   all_goals
    go_enter Tryz.func24,Tryz.ntmps24
    go_wp2_with fail
    refine (M.out _).mono ?_
    rintro e w1 ⟨rfl,b1⟩
    have B1:=bel_trans (al _) b1
    have x0:=box_cell b1 0 _ rfl
    have x1:=box_cell b1 1 _ rfl
    have y0:=box_cell_al b1 0 _ rfl
    have y2:=box_cell_al b1 2 _ rfl
    go_wp2_with fail
    refine (T1 _).mono ?_
    rintro e w2 ⟨rfl,b2⟩
    have b2':=bel_trans (b1.alloc b1.size _) b2
    have x3:=box_cell b2' 3 _ rfl
    go_wp2_with fail
    refine (T2 _).mono ?_
    rintro e w3 ⟨rfl,b3⟩
    have B3:=bel_trans (al _) (bel_trans b2' b3)
    go_wp2_with fail
    go_ret2
    exact ⟨rfl,B3⟩
  ·rw [if_neg hk] at hr
   obtain ⟨rfl,rfl⟩:=hr
   have HE:Hid (bytE (k,t,[],[])=[UInt8.ofNat k.toNat,UInt8.ofNat t.toNat]):=by
    show _=_
    unfold bytE
    simp only
    rw [if_neg hk]
   rw [HE.out]
   have q1:(k==2)=false:=by rw [beq_eq_false_iff_ne];exact fun h=>hk (Or.inl h)
   have q2:(k==3)=false:=by rw [beq_eq_false_iff_ne];exact fun h=>hk (Or.inr h)
   clear hk
   go_enter Tryz.func24,Tryz.ntmps24
   go_wp2_with fail
   refine (M.out _).mono ?_
   rintro e w1 ⟨rfl,b1⟩
   have B1:=bel_trans (al _) b1
   have x0:=box_cell b1 0 _ rfl
   have x1:=box_cell b1 1 _ rfl
   have y0:=box_cell_al b1 0 _ rfl
   go_wp2_with fail
   go_ret2
   exact ⟨rfl,B1.alloc B1.size _⟩
 ·rw [decide_eq_false hm] at M
  rw [bytesE_no _ hm]
  clear hm
  go_enter Tryz.func24,Tryz.ntmps24
  go_wp2_with fail
  refine (M.out _).mono ?_
  rintro e w1 ⟨rfl,b1⟩
  have B1:=bel_trans (al _) b1
  go_wp2_with fail
  go_ret2
  exact ⟨rfl,B1⟩
end Go.Proofs.YthamoeekiglphaaGreatDoor
namespace Go.Proofs.YthamoeekiglphaaGreatDoor
set_option maxRecDepth 100000
open Go.RowKit
set_option linter.unusedVariables false
attribute [local go_sem] ba_size
set_option maxHeartbeats 2000000 in
theorem rleaves_any (h:List Ev) (v:Value) (w:World) (hT:IsEvs w v h) :
 Calls Tryz.prog 20 #[v] w fun e w'=>TxRes w (leavesE h) e w':=by
 obtain ⟨i0,hi,hz0,hz1,hz2⟩:=info_parts str_info
 obtain ⟨a,cap,rfl,h1,h2,h3,HC⟩:=hT.some_at
 obtain ⟨n,hn⟩:∃ n,h.length=n:=⟨_,rfl⟩
 have HN:Hid (h.length=n):=hn
 rw [hn] at h1 h3 ⊢
 clear hT hn
 by_cases hbig:256 < n
 ·rw [leavesE_big h (by have:=HN.out;omega)]
  have j:(256:Int) < (n:Int):=by omega
  go_enter Tryz.func20,Tryz.ntmps20
  go_wp2_with fail
  go_ret2
  exact ⟨_,rfl,Below.refl _ _,World.ownsRow_nil _ _ _ _⟩
 ·have j:¬ (256:Int) < (n:Int):=by omega
  go_enter Tryz.func20,Tryz.ntmps20
  go_wp2_with fail
  go_loopw [4,5] (fun r i wr=>∃ k:Nat,k≤n∧i=.int .i64 k∧Hid (allMay (h.take k))∧Below w.heap.size w wr∧wr.ownsRow w.heap.size 9 1 r k (strV ((h.take k).map bytE))) (fun _ i _=>n - (RowKit.intOf i).toNat)
  case atStart=>exact ⟨0,Nat.zero_le _,rfl,(by intro x hx;simp at hx),Below.refl _ _,World.ownsRow_nil _ _ _ _⟩
  case round =>
   obtain ⟨k,hk,rfl,HA,hbw,hrow⟩:=hrel
   by_cases hlt:k < n
   ·have hk1:k < h.length:=by have:=HN.out;omega
    obtain ⟨bb,off,rfl,hblt,hcell⟩:=HC.out k hk1
    obtain ⟨p0,p1,p2,p3⟩:=IsEvs.at hk1 hcell
    have q0:=(hbw.cell (p:=⟨bb,off+k*4,none⟩) hblt).trans p0
    have q1:=(hbw.cell (p:=⟨bb,off+k*4+1,none⟩) hblt).trans p1
    have q2:=(hbw.cell (p:=⟨bb,off+k*4+2,none⟩) hblt).trans p2
    have q3:=(hbw.cell (p:=⟨bb,off+k*4+3,none⟩) hblt).trans p3
    clear p0 p1 p2 p3 hcell
    obtain ⟨⟨x0,x1,x2,x3⟩,hx⟩:∃ x,h[k]=x:=⟨_,rfl⟩
    have HX:Hid (h[k]=(x0,x1,x2,x3)):=hx
    rw [hx] at q0 q1 q2 q3
    simp only at q0 q1 q2 q3
    clear hx
    have C:=fun W=>rbytes6_any x0 x1 x2 x3 W
    by_cases hm:mayE (x0,x1,x2,x3)
    ·rw [bytesE_ok _ hm] at C
     have HB:Hid (bytE h[k]=bytE (x0,x1,x2,x3)):=by show _=_;rw [HX.out]
     have HA':Hid (allMay (h.take (k+1))):=allMay_next h k hk1 HA.out (by rw [HX.out];exact hm)
     obtain ⟨s,hs⟩:∃ s,bytE (x0,x1,x2,x3)=s:=⟨_,rfl⟩
     rw [hs] at C HB
     have HV:Hid (strV ((h.take (k+1)).map bytE)=strV ((h.take k).map bytE)++[.string ⟨s.toArray⟩]):=by
      show _=_
      rw [List.take_succ_eq_append_getElem hk1,List.map_append,List.map_cons,List.map_nil,strV_snoc,HB.out]
     clear hs hm
     go_wp2_with fail
     refine (C _).mono ?_
     rintro e w1 ⟨rfl,b1⟩
     have B1:=bel_trans hbw b1
     have hrow1:=owns_below hrow b1
     go_wp2_with (at_builtin;refine wpList_append_own _ rfl _ _ 45 rfl w.heap.size 9 i0 (.string ByteArray.empty) 1 16 Tryz.underlying45 hi hz0 hz1 hz2 rfl (by decide) _ _ _ rfl (hrow1.alloc _) ⟨w1.heap.size,0,none⟩ 1 1 [.string ⟨s.toArray⟩] rfl rfl ?d1 ?d2 ?d3 ?d4 ?d5 ?_)
     case d1 =>
      intro j u hj
      match j,hj with
      | 0,hj=>simp at hj;subst hj;simp [Addr.add]
     case d2=>intro u hu;simp at hu;subst hu;rfl
     case d3=>unfold maxLen;omega
     case d4=>omega
     case d5=>have:=B1.size;simp;omega
     intro v' w2 hown2 hgrow2 _
     have B2:Below w.heap.size w w2:=(B1.alloc B1.size _).grown hgrow2 (by have:=B1.size;simp;omega) (fun j hj=>(hrow1.lt j hj).1)
     go_wp2_with fail
     go_roundw
     case rel=>exact ⟨k+1,by omega,by first | go_num | simp,HA',B2,by rw [HV.out,List.map_take];exact hown2⟩
     case measure=>simp [RowKit.intOf];omega
    ·rw [bytesE_no _ hm] at C
     have HE:Hid (leavesE h=([],1)):=leavesE_bad h (by have:=HN.out;omega) k hk1 (by rw [HX.out];exact hm)
     clear hm
     go_wp2_with fail
     refine (C _).mono ?_
     rintro e w1 ⟨rfl,b1⟩
     go_wp2_with fail
     go_ret2
     refine ⟨_,by rw [HE.out];rfl,bel_trans hbw b1,?_⟩
     rw [HE.out]
     exact World.ownsRow_nil _ _ _ _
   ·obtain rfl:k=n:=by omega
    have HE:Hid (leavesE h=(h.map bytE,0)):=by
     have:=HA.out
     rw [List.take_of_length_le (by have:=HN.out;omega)] at this
     exact leavesE_ok h (by have:=HN.out;omega) this
    have HF:Hid (h.take k=h):=List.take_of_length_le (by have:=HN.out;omega)
    go_wp2_with fail
    go_ret2
    refine ⟨_,by rw [HE.out];rfl,hbw,?_⟩
    rw [HE.out]
    show World.ownsRow _ _ _ _ _ (h.map bytE).length _
    rw [List.length_map,HN.out]
    rw [HF.out] at hrow
    exact hrow
attribute [local go_sem] ba_size ba_get ba_extract ba_append wrap_byte wrap_u64_byte take_drop_end
theorem low_succ (k v:Nat):Lm.low (k+1) v=UInt8.ofNat (v / 256 ^ k % 256)::Lm.low k v:=by
 rw [Lm.low];congr 1;apply UInt8.toNat_inj.1;simp
theorem low_le (k v:Nat) (h:k≤8):(Lm.low k v).length≤8:=by rw [Lm.low_length];exact h
set_option maxHeartbeats 400000 in
theorem refNum_any (v:Nat) (hv:v < 18446744073709551616) (w:World) :
 Calls Tryz.prog 53 #[.int .u64 v] w fun e w'=>e=.returned (.string ⟨(Lm.numL v).toArray⟩)∧Below w.heap.size w w':=by
 have c1:=conv1
 go_enter Tryz.func53,Tryz.ntmps53
 go_wp2
 go_loopw [0,3,4] (fun a s i wr=>∃ k:Nat,k≤8∧a=.int .u64 ((v / 256 ^ k:Nat):Int)∧s=.string ⟨(Lm.low k v).toArray⟩∧i=.int .i64 (k:Int)∧(k=0∨0 < v / 256 ^ (k - 1))∧Below w.heap.size w wr)
  (fun _ _ i _=>8 - (RowKit.intOf i).toNat)
 case atStart=>exact ⟨0,by omega,by simp,rfl,rfl,.inl rfl,Below.refl _ _⟩
 case round =>
  obtain ⟨k,hk8,rfl,rfl,rfl,hk,hbw⟩:=hrel
  by_cases hlt:0 < v / 256 ^ k
  ·have hk8:=Lm.loop_le v k (by omega) hlt
   have hx:((v / 256 ^ k:Nat):Int) < 18446744073709551616:=by have:=Nat.div_le_self v (256 ^ k);omega
   have hD:v / 256 ^ (k+1)=v / 256 ^ k / 256:=by rw [Nat.pow_succ,Nat.div_div_eq_div_mul]
   generalize hxx:v / 256 ^ k=x at *
   have HD:Hid _:=hD;clear hD
   have HX:Hid _:=hxx;clear hxx
   have hll:=low_le k v (by omega)
   go_wp2
   go_roundw
   case rel=>exact ⟨k+1,by omega,by rw [HD.out];simp,by rw [low_succ,HX.out],by go_num,.inr (by simpa [HX.out] using hlt),hbw.alloc hbw.size _⟩
   case measure=>simp [RowKit.intOf];omega
  ·have hz:v / 256 ^ k=0:=Nat.eq_zero_of_not_pos hlt
   obtain rfl:=Lm.cnt_of_loop v k (by omega) hk hz
   rw [hz]
   clear hz hlt hk
   have hll:=low_le (Lm.cnt v) v hk8
   go_wp2
   go_ret
   exact ⟨rfl,hbw.alloc hbw.size _⟩
end Go.Proofs.YthamoeekiglphaaGreatDoor
namespace Go.Proofs.YthamoeekiglphaaGreatDoor
set_option maxRecDepth 100000
open Go.RowKit
set_option linter.unusedVariables false
structure WS (w W:World) (cs:Array Value) (lv ev:Value) (L E:List Int):Prop where
 b:Below w.heap.size w W
 x:SBox W w.heap.size 27 cs
 l:W.ownsRow w.heap.size 3 1 lv L.length (recV intV L)
 e:W.ownsRow w.heap.size 3 1 ev E.length (recV intV E)
 ap:∀ g,lv.ownBlock=some g→ev.ownBlock≠some g
theorem WS.swap {w W:World} {cs:Array Value} {lv ev:Value} {L E:List Int} (h:WS w W cs lv ev L E):WS w W cs ev lv E L:=⟨h.b,h.x,h.e,h.l,fun g h1 h2=>h.ap g h2 h1⟩
theorem WS.below {w W W':World} {cs:Array Value} {lv ev:Value} {L E:List Int} (h:WS w W cs lv ev L E) (hb:Below W.heap.size W W'):WS w W' cs lv ev L E :=
 ⟨bel_trans h.b hb,h.x.below hb,owns_below h.l hb,owns_below h.e hb,h.ap⟩
theorem WS.new (w:World) (cs:Array Value):WS w (w.alloc (.cells cs 27)) cs (.slice none 0 0) (.slice none 0 0) [] [] :=
 ⟨(Below.refl _ w).alloc (Nat.le_refl _) _,SBox.new w _ _,World.ownsRow_nil _ _ _ _,World.ownsRow_nil _ _ _ _,fun g h=>by simp [Value.ownBlock] at h⟩
theorem recI14 (l:List Int):recV intV l=l.map (Value.int .i64):=by
 induction l with
 | nil=>rfl
 | cons x t ih=>rw [List.map_cons,← ih];rfl
theorem wp_push14 {ops:Array Oper} {rest:List Oper} {o:Oper} {a:Act} {Q:Exit→Act→World→Prop} (hgd:o.guard=none) (s x:Operand)
 (ho:o.op=.call { callee:=.builtin .append,args:=#[s,x],argTypes:=#[22,22] })
 {w W:World} {cs:Array Value} {lv ev:Value} {L E:List Int} (S:WS w W cs lv ev L E) (hs:a.eval s=lv) (news:List Int) (m c:Nat)
 (hx:a.eval x=.slice (some ⟨W.heap.size,0,none⟩) m c) (hm:news.length=m) (hL:L.length+m≤1000000)
 (h:∀ lv' W',WS w W' cs lv' ev (L++news) E→(∀ b t cs',SBox W b t cs'→t≠3→SBox W' b t cs')→wpList Tryz.prog ops Q rest (a.put o.dst lv') W'):wpList Tryz.prog ops Q (o::rest) a (W.alloc (.cells (news.map (Value.int .i64)).toArray 3)):=by
 obtain ⟨i0,hi,hz0,hz1,hz2⟩:=info_parts int_info
 have hA:=S.l.alloc (.cells (news.map (Value.int .i64)).toArray 3)
 refine wpList_append_own_at _ hgd s x 22 ho w.heap.size 3 i0 (.int .i64 0) 1 8 Tryz.underlying22 hi hz0 hz1 hz2 rfl (by decide) lv _ _ hs hA ⟨W.heap.size,0,none⟩ m c (news.map (Value.int .i64)) hx (by rw [List.length_map,hm,Nat.mul_one]) ?_ ?_ (by unfold maxLen;omega) (by omega) (by rw [World.size_alloc];have:=S.b.size;omega) ?_
 ·intro j u hj
  have ea:(⟨W.heap.size,0,none⟩:Addr).add j=⟨W.heap.size,j,none⟩:=by unfold Addr.add;split<;>simp_all
  rw [ea]
  exact (SBox.new W 3 (news.map (Value.int .i64)).toArray).cell j u (by simpa using hj)
 ·intro u hu
  obtain ⟨y,_,rfl⟩:=List.mem_map.1 hu
  rfl
 ·intro v' w' hown hg _ hat
  have hX:=S.x.alloc (.cells (news.map (Value.int .i64)).toArray 3)
  have hne:=block_not_row S.x (by decide) S.l
  refine h v' w' ?_ (fun b t cs' hB ht=>(hg.block _ (hB.alloc _).lt (block_not_row hB ht S.l)).trans (hB.alloc _))
  refine ⟨(S.b.alloc S.b.size _).grown hg (by rw [World.size_alloc];have:=S.b.size;omega) (fun j hj=>(S.l.lt j hj).1),(hg.block _ hX.lt hne).trans hX,?_,(S.e.alloc _).kept hg ?_,?_⟩
  ·rw [List.length_append,hm,recV_append,recI14 news]
   exact hown
  ·cases hv:ev.ownBlock with
   | none =>
     rcases S.e.2 with ⟨rfl,_⟩ | ⟨g,cap,cur,rfl,_⟩
     ·exact .inl rfl
     ·simp [Value.ownBlock] at hv
   | some g=>exact .inr (fun e=>S.ap g e.symm hv)
  ·intro g h1 h2
   rcases hat with h3 | h3
   ·exact S.ap g (h3.symm.trans h1) h2
   ·rw [h1] at h3
    have:=(S.e.lt g h2).2
    have h4:=Option.some.inj h3
    rw [World.size_alloc] at h4
    omega
attribute [local go_sem] ba_size
set_option maxHeartbeats 2000000 in
theorem rfind_any (h:List Ev) (v:Value) (w:World) (hT:IsEvs w v h) (t:Int) :
 Calls Tryz.prog 127 #[v,.int .i64 t] w fun e w'=>e=.returned (.tuple #[lifA (findP h t).1,.bool (findP h t).2])∧Below w.heap.size w w':=by
 have C1:=fun W hW=>rfirst_any h v W (hT.below (w':=W) hW) t h.length (Nat.le_refl _)
 have C2:=fun W hW=>rend_any h v W (hT.below (w':=W) hW) t h.length (Nat.le_refl _)
 have R0:=SBox.new w 174 #[.int .i64 0,.int .i64 0,.int .i64 0,.bool false]
 have B0:=(Below.refl w.heap.size w).alloc (Nat.le_refl _) (.cells #[.int .i64 0,.int .i64 0,.int .i64 0,.bool false] 174)
 obtain ⟨a,cap,rfl,h1,h2,h3,HC⟩:=hT.reads
 obtain ⟨n,hn⟩:∃ n,h.length=n:=⟨_,rfl⟩
 have HN:Hid (h.length=n):=hn
 rcases hf:fstL h t h.length with _ | f
 ·have HP:findP h t=((0,0,0,false),false):=by unfold findP findL;rw [hf]
  rw [HP]
  rw [hf] at C1
  rw [hn] at h1 h3 C1 C2 ⊢
  simp only [oI] at C1
  clear hf HP hn hT
  go_enter Tryz.func127,Tryz.ntmps127
  go_wp2_with fail
  refine (C1 _ B0).mono ?_
  rintro e w1 ⟨rfl,b1⟩
  have R1:=R0.below b1
  have B1:=bel_trans B0 b1
  have r0:=R1.cell 0 _ rfl
  have r1:=R1.cell 1 _ rfl
  have r2:=R1.cell 2 _ rfl
  have r3:=R1.cell 3 _ rfl
  have g0:=R1.frozen 0
  have g1:=R1.frozen 1
  have g2:=R1.frozen 2
  have g3:=R1.frozen 3
  go_wp2_with fail
  generalize hW:World.setCell _ _ _=W
  have RW:SBox W w.heap.size 174 #[.int .i64 0,.int .i64 0,.int .i64 0,.bool false]:=by rw [← hW];exact R1.put4 _ _ _ _
  have BZ:Below w.heap.size w W:=by rw [← hW];exact bel_put4 B1 (Nat.le_refl _) _ _ _ _
  exact bodyPost_ret (v:=.tuple #[lifA (0,0,0,false),.bool false]) (results_row_tmp Tryz.results127 _ _ w.heap.size 174 _ (0,0) _ rfl RW Tryz.underlying174 rfl size_lif) rfl ⟨rfl,BZ⟩
 ·rcases he:endL h t h.length with _ | g
  ·have HP:findP h t=((t,f,h.length,false),true):=by unfold findP findL;rw [hf];simp only;rw [he]
   rw [HP]
   rw [hf] at C1
   rw [he] at C2
   rw [hn] at h1 h3 C1 C2 ⊢
   simp only [oI] at C1 C2
   have jf:¬ (f:Int) < 0:=by omega
   clear hf he HP hn hT
   go_enter Tryz.func127,Tryz.ntmps127
   go_wp2_with fail
   refine (C1 _ B0).mono ?_
   rintro e w1 ⟨rfl,b1⟩
   have R1:=R0.below b1
   have B1:=bel_trans B0 b1
   go_wp2_with fail
   refine (C2 _ B1).mono ?_
   rintro e w2 ⟨rfl,b2⟩
   have R2:=R1.below b2
   have B2:=bel_trans B1 b2
   have r0:=R2.cell 0 _ rfl
   have r1:=R2.cell 1 _ rfl
   have r2:=R2.cell 2 _ rfl
   have r3:=R2.cell 3 _ rfl
   have g0:=R2.frozen 0
   have g1:=R2.frozen 1
   have g2:=R2.frozen 2
   have g3:=R2.frozen 3
   go_wp2_with fail
   generalize hW:World.setCell _ _ _=W
   have RW:SBox W w.heap.size 174 #[.int .i64 t,.int .i64 (f:Int),.int .i64 (n:Int),.bool false]:=by rw [← hW];exact R2.put4 _ _ _ _
   have BZ:Below w.heap.size w W:=by rw [← hW];exact bel_put4 B2 (Nat.le_refl _) _ _ _ _
   exact bodyPost_ret (v:=.tuple #[lifA (t,f,n,false),.bool true]) (results_row_tmp Tryz.results127 _ _ w.heap.size 174 _ (0,0) _ rfl RW Tryz.underlying174 rfl size_lif) rfl ⟨rfl,BZ⟩
  ·have hgl:=((fi_some _ _ _).1 he).1
   obtain ⟨bb,off,rfl,HQ⟩:=HC.out (by omega)
   have HP:findP h t=((t,f,g,decide ((ev h g).1=4)),true):=by unfold findP findL;rw [hf];simp only;rw [he]
   rw [HP]
   rw [hf] at C1
   rw [he] at C2
   rw [hn] at h1 h3 C1 C2 ⊢
   simp only [oI] at C1 C2
   have jf:¬ (f:Int) < 0:=by omega
   have jg:¬ (g:Int) < 0:=by omega
   have jl:g < n:=by have:=HN.out;omega
   obtain ⟨x0,hx⟩:∃ x,(ev h g).1=x:=⟨_,rfl⟩
   have HX:Hid ((ev h g).1=x0):=hx
   have HG:Hid (g < h.length):=hgl
   rw [hx]
   by_cases d:x0=4
   ·have e4:(x0==4)=true:=by rw [d];rfl
    rw [decide_eq_true d]
    clear hf he HP hn hT hgl hx
    go_enter Tryz.func127,Tryz.ntmps127
    go_wp2_with fail
    refine (C1 _ B0).mono ?_
    rintro e w1 ⟨rfl,b1⟩
    have R1:=R0.below b1
    have B1:=bel_trans B0 b1
    go_wp2_with fail
    refine (C2 _ B1).mono ?_
    rintro e w2 ⟨rfl,b2⟩
    have R2:=R1.below b2
    have B2:=bel_trans B1 b2
    have cc:=(HQ.out g HG.out _ B2).1
    rw [HX.out] at cc
    have r0:=R2.cell 0 _ rfl
    have r1:=R2.cell 1 _ rfl
    have r2:=R2.cell 2 _ rfl
    have r3:=R2.cell 3 _ rfl
    have g0:=R2.frozen 0
    have g1:=R2.frozen 1
    have g2:=R2.frozen 2
    have g3:=R2.frozen 3
    go_wp2_with fail
    generalize hW:World.setCell _ _ _=W
    have RW:SBox W w.heap.size 174 #[.int .i64 t,.int .i64 (f:Int),.int .i64 (g:Int),.bool true]:=by rw [← hW];exact R2.put4 _ _ _ _
    have BZ:Below w.heap.size w W:=by rw [← hW];exact bel_put4 B2 (Nat.le_refl _) _ _ _ _
    exact bodyPost_ret (v:=.tuple #[lifA (t,f,g,true),.bool true]) (results_row_tmp Tryz.results127 _ _ w.heap.size 174 _ (0,0) _ rfl RW Tryz.underlying174 rfl size_lif) rfl ⟨rfl,BZ⟩
   ·have e4:(x0==4)=false:=beq_eq_false_iff_ne.2 d
    rw [decide_eq_false d]
    clear hf he HP hn hT hgl hx
    go_enter Tryz.func127,Tryz.ntmps127
    go_wp2_with fail
    refine (C1 _ B0).mono ?_
    rintro e w1 ⟨rfl,b1⟩
    have R1:=R0.below b1
    have B1:=bel_trans B0 b1
    go_wp2_with fail
    refine (C2 _ B1).mono ?_
    rintro e w2 ⟨rfl,b2⟩
    have R2:=R1.below b2
    have B2:=bel_trans B1 b2
    have cc:=(HQ.out g HG.out _ B2).1
    rw [HX.out] at cc
    have r0:=R2.cell 0 _ rfl
    have r1:=R2.cell 1 _ rfl
    have r2:=R2.cell 2 _ rfl
    have r3:=R2.cell 3 _ rfl
    have g0:=R2.frozen 0
    have g1:=R2.frozen 1
    have g2:=R2.frozen 2
    have g3:=R2.frozen 3
    go_wp2_with fail
    generalize hW:World.setCell _ _ _=W
    have RW:SBox W w.heap.size 174 #[.int .i64 t,.int .i64 (f:Int),.int .i64 (g:Int),.bool false]:=by rw [← hW];exact R2.put4 _ _ _ _
    have BZ:Below w.heap.size w W:=by rw [← hW];exact bel_put4 B2 (Nat.le_refl _) _ _ _ _
    exact bodyPost_ret (v:=.tuple #[lifA (t,f,g,false),.bool true]) (results_row_tmp Tryz.results127 _ _ w.heap.size 174 _ (0,0) _ rfl RW Tryz.underlying174 rfl size_lif) rfl ⟨rfl,BZ⟩
end Go.Proofs.YthamoeekiglphaaGreatDoor
namespace Go.Proofs.YthamoeekiglphaaGreatDoor
set_option maxRecDepth 100000
open Go.RowKit
set_option linter.unusedVariables false
section
variable {P:Program} {md:Region.Mode} {ops:Array Oper} {Q:Exit→Act→World→Prop}
def takeB (md:Region.Mode) (ops:Array Oper) (listed:Array Bool) (d i:Nat) (o:Oper) (a:Act):Bool :=
 Region.noSelect ops&&(Region.free md ops listed i&&((Region.ready md ops listed).contains i&&(Region.waitsFor md ops d i&&(!listed.getD d false&&Region.wanted o (yielded ops a.tmps)))))
theorem takeD {C:World→Prop} {d:Nat} (i:Nat) (v:Value) {oi:Oper} {f:Nat} {listed:Array Bool} {a:Act} {w:World} (hi:ops[i]?=some oi) (hb:takeB md ops listed d i oi a=true)
 (hQ:∀ c a w,Q (.panic c) (a.put oi.dst v) w→Q (.panic c) a w) (hy:∀ V,C V→(execOp a.eval oi).run P V=.ok (.value v) V)
 (h:wpAnyC C d P md ops Q f (listed.setIfInBounds i true) (a.put oi.dst v) w):wpAnyC C d P md ops Q (f+1) listed a w:=by
 unfold takeB at hb
 simp only [Bool.and_eq_true,Bool.not_eq_true'] at hb
 obtain ⟨h1,h2,h3,h4,h5,h6⟩:=hb
 exact takeC hi h1 h2 h3 h4 h5 hQ (.inl ⟨h6,hy⟩) h
end
end Go.Proofs.YthamoeekiglphaaGreatDoor
namespace Go.Proofs.YthamoeekiglphaaGreatDoor
set_option maxRecDepth 100000
open Go.RowKit
set_option linter.unusedVariables false
def farW (w U:World) (d:Decidable (Below w.heap.size w U):=Classical.propDecidable _):World:=@ite World (Below w.heap.size w U) d U w
theorem farW_eq {w U:World} (h:Below w.heap.size w U):farW w U=U:=by unfold farW;rw [if_pos h]
theorem farW_bel (w U:World):Below w.heap.size w (farW w U):=by
 unfold farW
 split
 ·assumption
 ·exact Below.refl _ _
theorem farW_cell (w U:World) (a:Addr) (h:(w.cell? a).isSome=true):(farW w U).cell? a=w.cell? a:=by
 obtain ⟨v,hv⟩:=Option.isSome_iff_exists.1 h
 exact (farW_bel w U).cell (World.block_lt_of_cell? w a hv)
section
variable {P:Program}
theorem region_far {id:Nat} {Q:Exit→Act→World→Prop} {a:Act} {w:World} {l:List Oper} (hm:P.follows .mixedOrders=true) (hB:Region.lexB .any l.toArray=true)
 (h:wpQuiet P l.toArray (fun w'=>∃ U,w'=farW w U) (fun a'=>∀ w',(∃ U,w'=farW w U)→Q .normal a' w') l a):(Code.region id l.toArray true).wp P Q a w :=
 wp_region_quiet (C:=fun w'=>∃ U,w'=farW w U) hm hB ⟨w.drew,(farW_eq (Below.refl _ _).drew).symm⟩ (by simpa using h)
theorem calls_far {f:FuncId} {args:Array Value} {w U:World} {v:Value} (h:Calls P f args (farW w U) fun e w'=>e=.returned v∧Below (farW w U).heap.size (farW w U) w'):Calls P f args (farW w U) fun e w''=>e=.returned v∧∃ U',w''=farW w U' :=
 h.mono fun _ w' ⟨he,hb⟩=>⟨he,w',(farW_eq (bel_trans (farW_bel w U) hb)).symm⟩
end
end Go.Proofs.YthamoeekiglphaaGreatDoor
namespace Go.Proofs.YthamoeekiglphaaGreatDoor
set_option maxRecDepth 100000
open Go.RowKit
set_option linter.unusedVariables false
attribute [local go_sem] ba_size
theorem rplace14_any (i:Int) (w:World):Calls Tryz.prog 79 #[.int .i64 i] w fun e w'=>e=.returned (.bool (decide (plM i)))∧w'=w:=by
 by_cases h1:0≤i
 ·by_cases h2:i≤255
  ·rw [decide_eq_true (show plM i from ⟨h1,h2⟩)]
   go_enter Tryz.func79,Tryz.ntmps79
   go_wp2_with fail
   go_ret
   exact ⟨rfl,rfl⟩
  ·rw [decide_eq_false (fun hh:plM i=>h2 hh.2)]
   go_enter Tryz.func79,Tryz.ntmps79
   go_wp2_with fail
   go_ret
   exact ⟨rfl,rfl⟩
 ·rw [decide_eq_false (fun hh:plM i=>h1 hh.1)]
  go_enter Tryz.func79,Tryz.ntmps79
  go_wp2_with fail
  go_ret
  exact ⟨rfl,rfl⟩
theorem rtxn14_any (i:Int) (w:World):Calls Tryz.prog 80 #[.int .i64 i] w fun e w'=>e=.returned (.bool (decide (txM i)))∧w'=w:=by
 by_cases h1:1≤i
 ·by_cases h2:i≤32
  ·rw [decide_eq_true (show txM i from ⟨h1,h2⟩)]
   go_enter Tryz.func80,Tryz.ntmps80
   go_wp2_with fail
   go_ret
   exact ⟨rfl,rfl⟩
  ·rw [decide_eq_false (fun hh:txM i=>h2 hh.2)]
   go_enter Tryz.func80,Tryz.ntmps80
   go_wp2_with fail
   go_ret
   exact ⟨rfl,rfl⟩
 ·rw [decide_eq_false (fun hh:txM i=>h1 hh.1)]
  go_enter Tryz.func80,Tryz.ntmps80
  go_wp2_with fail
  go_ret
  exact ⟨rfl,rfl⟩
theorem rplace14_yes (i:Int) (h:plM i) (w:World):Calls Tryz.prog 79 #[.int .i64 i] w fun e w'=>e=.returned (.bool true)∧w'=w:=by
 have:=rplace14_any i w
 rw [decide_eq_true h] at this
 exact this
theorem rplace14_no (i:Int) (h:¬ plM i) (w:World):Calls Tryz.prog 79 #[.int .i64 i] w fun e w'=>e=.returned (.bool false)∧w'=w:=by
 have:=rplace14_any i w
 rw [decide_eq_false h] at this
 exact this
theorem rtxn14_yes (i:Int) (h:txM i) (w:World):Calls Tryz.prog 80 #[.int .i64 i] w fun e w'=>e=.returned (.bool true)∧w'=w:=by
 have:=rtxn14_any i w
 rw [decide_eq_true h] at this
 exact this
theorem rtxn14_no (i:Int) (h:¬ txM i) (w:World):Calls Tryz.prog 80 #[.int .i64 i] w fun e w'=>e=.returned (.bool false)∧w'=w:=by
 have:=rtxn14_any i w
 rw [decide_eq_false h] at this
 exact this
set_option maxHeartbeats 8000000 in
theorem rmay14_f1 (a p d:List UInt8) (sq ct lv k0 k1 k2:Int) (ac:Bool) (o:List Int) (g:List Ed) (q:List Pf) (oa ra pa:Option Addr) (no oc ng rc nq pc:Nat) (w:World) (hF:(a.length < 1∨16 < a.length∨sq < 1∨1048576 < sq∨(p.length≠0∧p.length≠32)∨d.length≠32∨ct < 0∨256 < ct)) :
 Calls Tryz.prog 36 #[.agg #[.string ⟨a.toArray⟩,.int .i64 sq,.string ⟨p.toArray⟩,.string ⟨d.toArray⟩,.int .i64 ct,.int .i64 lv,.bool ac,.slice oa no oc,.int .i64 k0,.int .i64 k1,.int .i64 k2,.slice ra ng rc,.slice pa nq pc]] w fun e w'=>e=.returned (.bool false)∧Below w.heap.size w w':=by
 have Hb1:Hid (true=decide (a.length < 1∨16 < a.length∨sq < 1∨1048576 < sq∨(p.length≠0∧p.length≠32)∨d.length≠32∨ct < 0∨256 < ct)):=(decide_eq_true hF).symm
 have X1:=SBox.new w 30 #[.string ⟨a.toArray⟩,.int .i64 sq,.string ⟨p.toArray⟩,.string ⟨d.toArray⟩,.int .i64 ct,.int .i64 lv,.bool ac,.slice oa no oc,.int .i64 k0,.int .i64 k1,.int .i64 k2,.slice ra ng rc,.slice pa nq pc]
 have B1:=(Below.refl w.heap.size w).alloc (Nat.le_refl _) (.cells #[.string ⟨a.toArray⟩,.int .i64 sq,.string ⟨p.toArray⟩,.string ⟨d.toArray⟩,.int .i64 ct,.int .i64 lv,.bool ac,.slice oa no oc,.int .i64 k0,.int .i64 k1,.int .i64 k2,.slice ra ng rc,.slice pa nq pc] 30)
 have X2:=SBox.new (w.alloc (.cells #[.string ⟨a.toArray⟩,.int .i64 sq,.string ⟨p.toArray⟩,.string ⟨d.toArray⟩,.int .i64 ct,.int .i64 lv,.bool ac,.slice oa no oc,.int .i64 k0,.int .i64 k1,.int .i64 k2,.slice ra ng rc,.slice pa nq pc] 30)) 27 #[.int .i64 lv,.bool ac,.slice oa no oc,.int .i64 k0,.int .i64 k1,.int .i64 k2,.slice ra ng rc]
 have Y1:=X1.alloc (.cells #[.int .i64 lv,.bool ac,.slice oa no oc,.int .i64 k0,.int .i64 k1,.int .i64 k2,.slice ra ng rc] 27)
 have B2:=B1.alloc B1.size (.cells #[.int .i64 lv,.bool ac,.slice oa no oc,.int .i64 k0,.int .i64 k1,.int .i64 k2,.slice ra ng rc] 27)
 rw [show (w.alloc (.cells #[.string ⟨a.toArray⟩,.int .i64 sq,.string ⟨p.toArray⟩,.string ⟨d.toArray⟩,.int .i64 ct,.int .i64 lv,.bool ac,.slice oa no oc,.int .i64 k0,.int .i64 k1,.int .i64 k2,.slice ra ng rc,.slice pa nq pc] 30)).heap.size=w.heap.size+1 by simp] at X2
 have g5:=X1.cell 5 _ rfl
 have g6:=X1.cell 6 _ rfl
 have g7:=X1.cell 7 _ rfl
 have g8:=X1.cell 8 _ rfl
 have g9:=X1.cell 9 _ rfl
 have g10:=X1.cell 10 _ rfl
 have g11:=X1.cell 11 _ rfl
 have f0:=Y1.cell 0 _ rfl
 have f1:=Y1.cell 1 _ rfl
 have f2:=Y1.cell 2 _ rfl
 have f3:=Y1.cell 3 _ rfl
 have f4:=Y1.cell 4 _ rfl
 have f12:=Y1.cell 12 _ rfl
 have u0:=X2.cell 0 _ rfl
 have u1:=X2.cell 1 _ rfl
 have u2:=X2.cell 2 _ rfl
 have u3:=X2.cell 3 _ rfl
 have u4:=X2.cell 4 _ rfl
 have u5:=X2.cell 5 _ rfl
 have u6:=X2.cell 6 _ rfl
 go_enter Tryz.func36,Tryz.ntmps36
 go_upto_region 2 with fail
 go_cut [64] from 17 to 64 (fun s W=>s=.bool true∧W=((w.alloc (.cells #[.string ⟨a.toArray⟩,.int .i64 sq,.string ⟨p.toArray⟩,.string ⟨d.toArray⟩,.int .i64 ct,.int .i64 lv,.bool ac,.slice oa no oc,.int .i64 k0,.int .i64 k1,.int .i64 k2,.slice ra ng rc,.slice pa nq pc] 30)).alloc (.cells #[.int .i64 lv,.bool ac,.slice oa no oc,.int .i64 k0,.int .i64 k1,.int .i64 k2,.slice ra ng rc] 27)))
 case first =>
  clear Hb1
  by_cases c0:a.length < 1
  ·skip
   have q1:(a.length:Int) < 1:=by omega
   go_wp2_with fail
   go_meet
   exact ⟨rfl,rfl⟩
  ·skip
   have q1:¬ (a.length:Int) < 1:=by omega
   by_cases c1:16 < a.length
   ·skip
    have q2:(16:Int) < (a.length:Int):=by omega
    go_wp2_with fail
    go_meet
    exact ⟨rfl,rfl⟩
   ·skip
    have q2:¬ (16:Int) < (a.length:Int):=by omega
    by_cases c2:sq < 1
    ·skip
     go_wp2_with fail
     go_meet
     exact ⟨rfl,rfl⟩
    ·skip
     by_cases c3:1048576 < sq
     ·skip
      go_wp2_with fail
      go_meet
      exact ⟨rfl,rfl⟩
     ·skip
      by_cases c4:p.length=0
      ·have q5:((p.length:Int) != 0)=false:=by rw [c4];rfl
       by_cases c6:d.length≠32
       ·skip
        have q7:((d.length:Int) != 32)=true:=bne_iff_ne.2 (by omega)
        go_wp2_with fail
        go_meet
        exact ⟨rfl,rfl⟩
       ·skip
        have q7:((d.length:Int) != 32)=false:=by rw [show d.length=32 by omega];rfl
        by_cases c7:ct < 0
        ·skip
         go_wp2_with fail
         go_meet
         exact ⟨rfl,rfl⟩
        ·skip
         by_cases c8:256 < ct
         ·skip
          go_wp2_with fail
          go_meet
          exact ⟨rfl,rfl⟩
         ·skip
          exfalso;omega
      ·have q5:((p.length:Int) != 0)=true:=bne_iff_ne.2 (by omega)
       by_cases c5:p.length=32
       ·have q6:((p.length:Int) != 32)=false:=by rw [c5];rfl
        by_cases c6:d.length≠32
        ·skip
         have q7:((d.length:Int) != 32)=true:=bne_iff_ne.2 (by omega)
         go_wp2_with fail
         go_meet
         exact ⟨rfl,rfl⟩
        ·skip
         have q7:((d.length:Int) != 32)=false:=by rw [show d.length=32 by omega];rfl
         by_cases c7:ct < 0
         ·skip
          go_wp2_with fail
          go_meet
          exact ⟨rfl,rfl⟩
         ·skip
          by_cases c8:256 < ct
          ·skip
           go_wp2_with fail
           go_meet
           exact ⟨rfl,rfl⟩
          ·skip
           exfalso;omega
       ·have q6:((p.length:Int) != 32)=true:=bne_iff_ne.2 (by omega)
        go_wp2_with fail
        go_meet
        exact ⟨rfl,rfl⟩
 case rest =>
  obtain ⟨rfl,rfl⟩:=hcut
  go_wp2_with fail
  go_ret
  exact ⟨rfl,B2⟩
set_option maxHeartbeats 8000000 in
theorem rmay14_f2 (a p d:List UInt8) (sq ct lv k0 k1 k2:Int) (ac:Bool) (o:List Int) (g:List Ed) (q:List Pf) (oa ra pa:Option Addr) (no oc ng rc nq pc:Nat) (w:World) (e1:1≤a.length∧a.length≤16) (e2:1≤sq∧sq≤1048576) (e3:p.length=0∨p.length=32) (e4:d.length=32) (e5:0≤ct∧ct≤256) (hF:(lv < 1∨2 < lv∨32 < no∨k0 < 0∨4 < k0∨¬ (plM k1∧plM k2)∨128 < ng∨256 < nq)) :
 Calls Tryz.prog 36 #[.agg #[.string ⟨a.toArray⟩,.int .i64 sq,.string ⟨p.toArray⟩,.string ⟨d.toArray⟩,.int .i64 ct,.int .i64 lv,.bool ac,.slice oa no oc,.int .i64 k0,.int .i64 k1,.int .i64 k2,.slice ra ng rc,.slice pa nq pc]] w fun e w'=>e=.returned (.bool false)∧Below w.heap.size w w':=by
 have q1:¬ (a.length:Int) < 1:=by omega
 have q2:¬ (16:Int) < (a.length:Int):=by omega
 have q3:¬ sq < 1:=by omega
 have q4:¬ 1048576 < sq:=by omega
 have q7:((d.length:Int) != 32)=false:=by rw [e4];rfl
 have q8:¬ ct < 0:=by omega
 have q9:¬ 256 < ct:=by omega
 have X1:=SBox.new w 30 #[.string ⟨a.toArray⟩,.int .i64 sq,.string ⟨p.toArray⟩,.string ⟨d.toArray⟩,.int .i64 ct,.int .i64 lv,.bool ac,.slice oa no oc,.int .i64 k0,.int .i64 k1,.int .i64 k2,.slice ra ng rc,.slice pa nq pc]
 have B1:=(Below.refl w.heap.size w).alloc (Nat.le_refl _) (.cells #[.string ⟨a.toArray⟩,.int .i64 sq,.string ⟨p.toArray⟩,.string ⟨d.toArray⟩,.int .i64 ct,.int .i64 lv,.bool ac,.slice oa no oc,.int .i64 k0,.int .i64 k1,.int .i64 k2,.slice ra ng rc,.slice pa nq pc] 30)
 have X2:=SBox.new (w.alloc (.cells #[.string ⟨a.toArray⟩,.int .i64 sq,.string ⟨p.toArray⟩,.string ⟨d.toArray⟩,.int .i64 ct,.int .i64 lv,.bool ac,.slice oa no oc,.int .i64 k0,.int .i64 k1,.int .i64 k2,.slice ra ng rc,.slice pa nq pc] 30)) 27 #[.int .i64 lv,.bool ac,.slice oa no oc,.int .i64 k0,.int .i64 k1,.int .i64 k2,.slice ra ng rc]
 have Y1:=X1.alloc (.cells #[.int .i64 lv,.bool ac,.slice oa no oc,.int .i64 k0,.int .i64 k1,.int .i64 k2,.slice ra ng rc] 27)
 have B2:=B1.alloc B1.size (.cells #[.int .i64 lv,.bool ac,.slice oa no oc,.int .i64 k0,.int .i64 k1,.int .i64 k2,.slice ra ng rc] 27)
 rw [show (w.alloc (.cells #[.string ⟨a.toArray⟩,.int .i64 sq,.string ⟨p.toArray⟩,.string ⟨d.toArray⟩,.int .i64 ct,.int .i64 lv,.bool ac,.slice oa no oc,.int .i64 k0,.int .i64 k1,.int .i64 k2,.slice ra ng rc,.slice pa nq pc] 30)).heap.size=w.heap.size+1 by simp] at X2
 have g5:=X1.cell 5 _ rfl
 have g6:=X1.cell 6 _ rfl
 have g7:=X1.cell 7 _ rfl
 have g8:=X1.cell 8 _ rfl
 have g9:=X1.cell 9 _ rfl
 have g10:=X1.cell 10 _ rfl
 have g11:=X1.cell 11 _ rfl
 have f0:=Y1.cell 0 _ rfl
 have f1:=Y1.cell 1 _ rfl
 have f2:=Y1.cell 2 _ rfl
 have f3:=Y1.cell 3 _ rfl
 have f4:=Y1.cell 4 _ rfl
 have f12:=Y1.cell 12 _ rfl
 have u0:=X2.cell 0 _ rfl
 have u1:=X2.cell 1 _ rfl
 have u2:=X2.cell 2 _ rfl
 have u3:=X2.cell 3 _ rfl
 have u4:=X2.cell 4 _ rfl
 have u5:=X2.cell 5 _ rfl
 have u6:=X2.cell 6 _ rfl
 go_enter Tryz.func36,Tryz.ntmps36
 go_upto_region 2 with fail
 go_cut [64] from 17 to 64 (fun s W=>s=.bool false∧W=((w.alloc (.cells #[.string ⟨a.toArray⟩,.int .i64 sq,.string ⟨p.toArray⟩,.string ⟨d.toArray⟩,.int .i64 ct,.int .i64 lv,.bool ac,.slice oa no oc,.int .i64 k0,.int .i64 k1,.int .i64 k2,.slice ra ng rc,.slice pa nq pc] 30)).alloc (.cells #[.int .i64 lv,.bool ac,.slice oa no oc,.int .i64 k0,.int .i64 k1,.int .i64 k2,.slice ra ng rc] 27)))
 case first =>
  rcases e3 with e3 | e3
  ·have q5:((p.length:Int) != 0)=false:=by rw [e3];rfl
   go_wp2_with fail
   go_meet
   exact ⟨rfl,rfl⟩
  ·have q5:((p.length:Int) != 0)=true:=bne_iff_ne.2 (by omega)
   have q6:((p.length:Int) != 32)=false:=by rw [e3];rfl
   go_wp2_with fail
   go_meet
   exact ⟨rfl,rfl⟩
 case rest =>
  obtain ⟨rfl,rfl⟩:=hcut
  clear X1 B1
  clear g5 g6 g7 g8 g9 g10 g11
  clear f0 f1 f2 f3 f4 f12 u0 u1 u2 u3 u4 u5 u6
  generalize ((w.alloc (.cells #[.string ⟨a.toArray⟩,.int .i64 sq,.string ⟨p.toArray⟩,.string ⟨d.toArray⟩,.int .i64 ct,.int .i64 lv,.bool ac,.slice oa no oc,.int .i64 k0,.int .i64 k1,.int .i64 k2,.slice ra ng rc,.slice pa nq pc] 30)).alloc (.cells #[.int .i64 lv,.bool ac,.slice oa no oc,.int .i64 k0,.int .i64 k1,.int .i64 k2,.slice ra ng rc] 27))=V at Y1 X2 B2 ⊢
  have f0:=Y1.cell 0 _ rfl
  have f1:=Y1.cell 1 _ rfl
  have f2:=Y1.cell 2 _ rfl
  have f3:=Y1.cell 3 _ rfl
  have f4:=Y1.cell 4 _ rfl
  have f12:=Y1.cell 12 _ rfl
  have u0:=X2.cell 0 _ rfl
  have u1:=X2.cell 1 _ rfl
  have u2:=X2.cell 2 _ rfl
  have u3:=X2.cell 3 _ rfl
  have u4:=X2.cell 4 _ rfl
  have u5:=X2.cell 5 _ rfl
  have u6:=X2.cell 6 _ rfl
  obtain ⟨bb,HBB⟩:∃ bb:Bool,Hid (bb=true↔(plM k1∧plM k2)):=⟨decide (plM k1∧plM k2),decide_eq_true_iff⟩
  go_upto_region 4 with fail
  go_cut [4] from 65 to 74 (fun s W=>s=.bool bb∧V=W)
  case first =>
   by_cases h1:plM k1
   ·by_cases h2:plM k2
    ·have hb:bb=true:=HBB.out.2 ⟨h1,h2⟩
     subst hb
     go_wp2_with fail
     refine (rplace14_yes k1 h1 _).mono ?_
     rintro e w1 ⟨rfl,rfl⟩
     go_wp2_with fail
     refine (rplace14_yes k2 h2 _).mono ?_
     rintro e w1 ⟨rfl,rfl⟩
     go_wp2_with fail
     go_meet
     exact ⟨rfl,rfl⟩
    ·have hb:bb=false:=by
      cases bb with
      | false=>rfl
      | true=>exact absurd (HBB.out.1 rfl).2 h2
     subst hb
     go_wp2_with fail
     refine (rplace14_yes k1 h1 _).mono ?_
     rintro e w1 ⟨rfl,rfl⟩
     go_wp2_with fail
     refine (rplace14_no k2 h2 _).mono ?_
     rintro e w1 ⟨rfl,rfl⟩
     go_wp2_with fail
     go_meet
     exact ⟨rfl,rfl⟩
   ·have hb:bb=false:=by
     cases bb with
     | false=>rfl
     | true=>exact absurd (HBB.out.1 rfl).1 h1
    subst hb
    go_wp2_with fail
    refine (rplace14_no k1 h1 _).mono ?_
    rintro e w1 ⟨rfl,rfl⟩
    go_wp2_with fail
    go_meet
    exact ⟨rfl,rfl⟩
  case rest =>
   obtain ⟨rfl,rfl⟩:=hcut
   go_upto_region 5 with fail
   go_cut [116] from 75 to 116 (fun s W=>s=.bool true∧V=W)
   case first =>
    by_cases c0:lv < 1
    ·skip
     go_wp2_with fail
     go_meet
     exact ⟨rfl,rfl⟩
    ·skip
     by_cases c1:2 < lv
     ·skip
      go_wp2_with fail
      go_meet
      exact ⟨rfl,rfl⟩
     ·skip
      by_cases c2:32 < no
      ·skip
       have q3:(32:Int) < (no:Int):=by omega
       go_wp2_with fail
       go_meet
       exact ⟨rfl,rfl⟩
      ·skip
       have q3:¬ (32:Int) < (no:Int):=by omega
       by_cases c3:k0 < 0
       ·skip
        go_wp2_with fail
        go_meet
        exact ⟨rfl,rfl⟩
       ·skip
        by_cases c4:4 < k0
        ·skip
         go_wp2_with fail
         go_meet
         exact ⟨rfl,rfl⟩
        ·skip
         cases bb with
         | false =>
           go_wp2_with fail
           go_meet
           exact ⟨rfl,rfl⟩
         | true =>
           have HPP:=HBB.out.1 rfl
           by_cases c6:128 < ng
           ·skip
            have q4:(128:Int) < (ng:Int):=by omega
            go_wp2_with fail
            go_meet
            exact ⟨rfl,rfl⟩
           ·skip
            have q4:¬ (128:Int) < (ng:Int):=by omega
            by_cases c7:256 < nq
            ·skip
             have q5:(256:Int) < (nq:Int):=by omega
             go_wp2_with fail
             go_meet
             exact ⟨rfl,rfl⟩
            ·skip
             have q5:¬ (256:Int) < (nq:Int):=by omega
             exfalso;unfold plM at hF HPP;omega
   case rest =>
    obtain ⟨rfl,rfl⟩:=hcut
    go_wp2_with fail
    go_ret
    exact ⟨rfl,B2⟩
theorem grown_set14 (w:World) (b k:Nat) (u:Value):w.grownBy (w.setCell ⟨b,k,none⟩ u) (some b) :=
 ⟨rfl,rfl,rfl,by simp [World.setCell],fun i hi hne=>Below.heap_setCell w ⟨b,k,none⟩ u i (fun e=>hne (by rw [e]))⟩
def putL:World→Nat→Nat→List Value→World
 | W,_,_,[]=>W
 | W,B,k,v::l=>putL (W.setCell ⟨B,k,none⟩ v) B (k+1) l
theorem SBox.putL {B t:Nat}:∀ (vs pre rest:List Value) (W:World),rest.length=vs.length→SBox W B t (pre++rest).toArray→SBox (putL W B pre.length vs) B t (pre++vs).toArray
 | [],pre,[],W,_,h=>h
 | [],pre,x::rest,W,hl,h=>by simp at hl
 | v::vs,pre,[],W,hl,h=>by simp at hl
 | v::vs,pre,x::rest,W,hl,h=>by
   have h1:=h.set pre.length v
   have e:((pre++x::rest).toArray).setIfInBounds pre.length v=((pre++[v])++rest).toArray:=by
    apply Array.ext'
    simp
   rw [e] at h1
   have h2:=SBox.putL vs (pre++[v]) rest (W.setCell ⟨B,pre.length,none⟩ v) (by simpa using hl) h1
   rw [List.length_append,List.append_assoc] at h2
   exact h2
theorem kept_putL {B:Nat}:∀ (vs:List Value) (k:Nat) (W:World),W.grownBy (putL W B k vs) (some B)
 | [],k,W=>⟨rfl,rfl,rfl,Nat.le_refl _,fun i hi hne=>rfl⟩
 | v::vs,k,W=>(grown_set14 W B k v).trans (kept_putL vs (k+1) _)
open Go.RowKit Go.Maps
theorem pf_infoM:(Tryz.prog.info? 55).map (fun i=>(i.zero,i.size,i.bytes))=some (some (.agg #[.int .i64 0,.int .i64 0,.int .i64 0,.string ByteArray.empty,.string ByteArray.empty,.slice none 0 0]),6,80):=by kernel_rfl
theorem owns_kept15 {W W':World} {B e k n B' e' k' n':Nat} {v r:Value} {xs ys:List Value} (h:W.ownsRow B e k v n xs) (hr:W.ownsRow B' e' k' r n' ys) (hte:e≠e') (hg:W.grownBy W' r.ownBlock):W'.ownsRow B e k v n xs:=by
 refine h.kept hg ?_
 rcases h.2 with ⟨rfl,_⟩ | ⟨g,cap,cur,rfl,_,hgb,_⟩
 ·exact .inl rfl
 ·exact .inr (fun e=>block_not_row hgb hte hr e)
theorem owns_slice15 {B e k n:Nat} {v:Value} {xs:List Value} {W:World} (h:W.ownsRow B e k v n xs):∃ a cap,v=.slice a n cap:=by
 rcases h.2 with ⟨rfl,rfl⟩ | ⟨g,cap,cur,rfl,_⟩
 ·exact ⟨none,0,rfl⟩
 ·exact ⟨_,cap,rfl⟩
theorem owns_base15 {W:World} {B C e k n:Nat} {v:Value} {xs:List Value} (h:W.ownsRow B e k v n xs) (hBC:C≤B):W.ownsRow C e k v n xs:=by
 refine ⟨h.1,?_⟩
 rcases h.2 with h2 | ⟨g,cap,cur,h3,h4,h5⟩
 ·exact .inl h2
 ·exact .inr ⟨g,cap,cur,h3,Nat.le_trans hBC h4,h5⟩
theorem owns_type15 {W W':World} {B e k n b t:Nat} {v:Value} {xs:List Value} {cs:Array Value} (h:W.ownsRow B e k v n xs) (hb:SBox W b t cs) (hte:e≠t) (hg:W.grownBy W' (some b)):W'.ownsRow B e k v n xs:=by
 refine h.kept hg ?_
 rcases h.2 with ⟨rfl,_⟩ | ⟨g,cap,cur,rfl,_,hgb,_⟩
 ·exact .inl rfl
 ·refine .inr (fun e=>?_)
  have e2:b=g:=by have e3:=e;simp [Value.ownBlock] at e3;omega
  rw [← e2] at hgb
  have hb':W.heap[b]?=some (.cells cs t (0,0)):=hb
  rw [hb'] at hgb
  have:=Option.some.inj hgb
  injection this with _ h2 _
  exact hte h2.symm
theorem owns_set15 {W:World} {B e k n b j t:Nat} {v:Value} {xs:List Value} {cs:Array Value} (h:W.ownsRow B e k v n xs) (hb:SBox W b t cs) (hte:e≠t) (u:Value):(W.setCell ⟨b,j,none⟩ u).ownsRow B e k v n xs:=owns_type15 h hb hte (grown_set14 W b j u)
def PfW (W:World) (L':List PVt) (L:List Pf):Prop:=L'.length=L.length∧∀ (i:Nat) x p,L'[i]?=some x→L[i]?=some p→x.1=p.1∧x.2.1=p.2.1∧(∃ B,W.ownsRow B 9 1 x.2.2 p.2.2.length (strV p.2.2))∧p.2.2.length≤140737488351232∧∀ t∈p.2.2,t.length≤1125899906842624
theorem PfW.map {W W':World} {L':List PVt} {L:List Pf} (h:PfW W L' L) (hk:∀ B v n xs,W.ownsRow B 9 1 v n xs→W'.ownsRow B 9 1 v n xs):PfW W' L' L :=
 ⟨h.1,fun i x p hx hp=>by obtain ⟨a,b,⟨B,c⟩,d⟩:=h.2 i x p hx hp;exact ⟨a,b,⟨B,hk _ _ _ _ c⟩,d⟩⟩
theorem PfW.nil (W:World):PfW W [] []:=⟨rfl,fun i x p h=>by simp at h⟩
theorem PfW.push {W:World} {L':List PVt} {L:List Pf} (h:PfW W L' L) (x:PVt) (p:Pf) (h1:x.1=p.1) (h2:x.2.1=p.2.1) (h3:∃ B,W.ownsRow B 9 1 x.2.2 p.2.2.length (strV p.2.2)) (h4:p.2.2.length≤140737488351232) (h5:∀ t∈p.2.2,t.length≤1125899906842624):PfW W (L'++[x]) (L++[p]):=by
 refine ⟨by simp [h.1],fun i y s hy hs=>?_⟩
 rcases Nat.lt_or_ge i L'.length with hi | hi
 ·rw [List.getElem?_append_left hi] at hy
  rw [List.getElem?_append_left (by rw [← h.1];exact hi)] at hs
  exact h.2 i y s hy hs
 ·rw [List.getElem?_append_right hi] at hy
  rw [List.getElem?_append_right (by rw [← h.1];exact hi)] at hs
  rw [h.1] at hy
  rcases Nat.eq_zero_or_pos (i - L.length) with h0 | h0
  ·rw [h0] at hy hs
   simp only [List.getElem?_cons_zero,Option.some.injEq] at hy hs
   subst hy hs
   exact ⟨h1,h2,h3,h4,h5⟩
  ·rw [List.getElem?_eq_none (by simp;omega)] at hy
   cases hy
theorem PfW.of {W:World} {L':List PVt} {L:List Pf} (h:PfW W L' L):PfOf W L' L :=
 ⟨h.1,fun i x p hx hp=>by obtain ⟨a,b,⟨B,c⟩,d1,d2⟩:=h.2 i x p hx hp;exact ⟨a,b,IsTxt.own c d1 d2⟩⟩
structure MkS (w8 V:World) (cs:Value→Array Value) (vc vp:Value) (L':List PVt) (L:List Pf) (nv:Value) (N:List Int):Prop where
 bel:Below w8.heap.size w8 V
 bx:SBox V w8.heap.size 30 (cs vc)
 row:V.ownsRow w8.heap.size 55 6 vp L'.length (recV pfV L')
 of:PfW V L' L
 nd:V.ownsRow w8.heap.size 3 1 nv N.length (recV intV N)
theorem MkS.below {w8 V V':World} {cs:Value→Array Value} {vc vp:Value} {L':List PVt} {L:List Pf} {nv:Value} {N:List Int} (h:MkS w8 V cs vc vp L' L nv N) (hb:Below V.heap.size V V'):MkS w8 V' cs vc vp L' L nv N :=
 ⟨bel_trans h.bel hb,h.bx.below hb,owns_below h.row hb,h.of.map (fun _ _ _ _ c=>owns_below c hb),owns_below h.nd hb⟩
theorem MkS.ndcell {w8 V:World} {cs:Value→Array Value} {vc vp:Value} {L':List PVt} {L:List Pf} {g c:Nat} {N:List Int} (h:MkS w8 V cs vc vp L' L (.slice (some ⟨g,0,none⟩) N.length c) N) (k:Nat) (hk:k < N.length):V.cell? ⟨g,k,none⟩=some (.int .i64 N[k]):=by
 have c:=h.nd.cellAt k (by rw [Nat.mul_one];exact hk)
 rw [c]
 have:=recV_get (enc:=intV) (sz:=1) (fun _=>rfl) N k hk 0 (by omega)
 simpa [intV] using this
theorem MkS.put {w8 V:World} {cs:Value→Array Value} {vc vp:Value} {L':List PVt} {L:List Pf} {nv:Value} {N:List Int} (h:MkS w8 V cs vc vp L' L nv N) (hcs:(cs vc).setIfInBounds 12 vp=cs vp):MkS w8 (V.setCell ⟨w8.heap.size,12,none⟩ vp) cs vp vp L' L nv N :=
 ⟨h.bel.setCell (p:=⟨w8.heap.size,12,none⟩) (Nat.le_refl _) _,by have:=h.bx.set 12 vp;rw [hcs] at this;exact this,owns_set15 h.row h.bx (by decide) _,h.of.map (fun _ _ _ _ c=>owns_set15 c h.bx (by decide) _),owns_set15 h.nd h.bx (by decide) _⟩
theorem wp_pushP15 {ops:Array Oper} {rest:List Oper} {o:Oper} {a:Act} {Q:Exit→Act→World→Prop} (hgd:o.guard=none) (s x:Operand)
 (ho:o.op=.call { callee:=.builtin .append,args:=#[s,x],argTypes:=#[28,28] })
 {w8 V:World} {cs:Value→Array Value} {vp:Value} {L':List PVt} {L:List Pf} {nv:Value} {N:List Int} (S:MkS w8 V cs vp vp L' L nv N) (hs:a.eval s=vp) (y:PVt) (p:Pf) (h1:y.1=p.1) (h2:y.2.1=p.2.1) (h3:∃ B,V.ownsRow B 9 1 y.2.2 p.2.2.length (strV p.2.2)) (h4:p.2.2.length≤140737488351232) (h5:∀ t∈p.2.2,t.length≤1125899906842624) (c:Nat)
 (hx:a.eval x=.slice (some ⟨V.heap.size,0,none⟩) 1 c) (hL:L'.length≤1000000) (hone:∀ u∈pfV y,u.oneCell'=true)
 (h:∀ ad cap W',MkS w8 W' cs vp (.slice ad (L'.length+1) cap) (L'++[y]) (L++[p]) nv N→wpList Tryz.prog ops Q rest (a.put o.dst (.slice ad (L'.length+1) cap)) W'):wpList Tryz.prog ops Q (o::rest) a (V.alloc (.cells (pfV y).toArray 55)):=by
 obtain ⟨i0,hi,hz0,hz1,hz2⟩:=info_parts pf_infoM
 have b1:=(Below.refl V.heap.size V).alloc (Nat.le_refl _) (.cells (pfV y).toArray 55)
 have S1:=S.below b1
 refine wpList_append_own_at _ hgd s x 28 ho w8.heap.size 55 i0 (.agg #[.int .i64 0,.int .i64 0,.int .i64 0,.string ByteArray.empty,.string ByteArray.empty,.slice none 0 0]) 6 80 Tryz.underlying28 hi hz0 hz1 hz2 rfl (by decide) vp _ _ hs S1.row ⟨V.heap.size,0,none⟩ 1 c (pfV y) hx rfl ?_ hone (by unfold maxLen;omega) (by omega) (by have:=S.bel.size;simp;omega) ?_
 ·intro j u hj
  have ea:(⟨V.heap.size,0,none⟩:Addr).add j=⟨V.heap.size,j,none⟩:=by unfold Addr.add;split<;>simp_all
  rw [ea]
  exact (SBox.new V 55 (pfV y).toArray).cell j u (by simpa using hj)
 ·intro v' w' hown hg _ hat
  obtain ⟨ad,cap,rfl⟩:=owns_slice15 hown
  refine h ad cap w' ⟨?_,(hg.block _ S1.bx.lt (block_not_row S1.bx (by decide) S1.row)).trans S1.bx,?_,?_,owns_kept15 S1.nd S1.row (by decide) hg⟩
  ·exact S1.bel.grown hg S1.bel.size (fun j hj=>(S1.row.lt j hj).1)
  ·rw [List.length_append]
   have e:recV pfV (L'++[y])=recV pfV L'++pfV y:=by rw [recV_append];simp [recV]
   rw [e]
   exact hown
  ·refine PfW.push (S1.of.map (fun _ _ _ _ c=>owns_kept15 c S1.row (by decide) hg)) y p h1 h2 ?_ h4 h5
   obtain ⟨B,hB⟩:=h3
   exact ⟨B,owns_kept15 (owns_below hB b1) S1.row (by decide) hg⟩
end Go.Proofs.YthamoeekiglphaaGreatDoor
namespace Go.Proofs.YthamoeekiglphaaGreatDoor
set_option maxRecDepth 100000
open Go.RowKit
set_option linter.unusedVariables false
attribute [local go_sem] ba_size ba_append ba_get ba_extract
theorem bytE_len (x:Ev) (h:mayE x):(bytE x).length≤80∧2≤(bytE x).length:=by
 unfold bytE txtE
 by_cases hk:keyedE x.1
 ·rw [if_pos hk]
  obtain ⟨_,h5⟩:=h
  rw [if_pos hk] at h5
  have l1:=Lm.lenL_le x.2.2.1.length
  have l2:=Lm.lenL_le x.2.2.2.length
  simp only [List.length_cons,List.length_append]
  omega
 ·rw [if_neg hk];simp
end Go.Proofs.YthamoeekiglphaaGreatDoor
namespace Go.Proofs.YthamoeekiglphaaGreatDoor
set_option maxRecDepth 100000
open Go.RowKit
set_option linter.unusedVariables false
attribute [local go_sem] ba_size
abbrev pfA (p:Pf) (u:Value):Array Value:=#[.int .i64 p.1,.int .i64 p.2.1.1,.int .i64 p.2.1.2.1,.string ⟨p.2.1.2.2.1.toArray⟩,.string ⟨p.2.1.2.2.2.toArray⟩,u]
abbrev evA15 (x:Ev):Array Value:=#[.int .i64 x.1,.int .i64 x.2.1,.string ⟨x.2.2.1.toArray⟩,.string ⟨x.2.2.2.toArray⟩]
theorem size_pf15:(Tryz.prog.info? 55).map (·.size)=some 6:=by kernel_rfl
theorem size_ev15:(Tryz.prog.info? 53).map (·.size)=some 4:=by kernel_rfl
theorem dec_beq15 (x y:List UInt8):decide (x=y)=(x==y):=by
 by_cases h:x=y
 ·rw [decide_eq_true h,h];exact (beq_self_eq_true y).symm
 ·rw [decide_eq_false h];exact (beq_eq_false_iff_ne.2 h).symm
set_option maxHeartbeats 2000000 in
theorem pat15_any (W:World) (b:Nat) (i:Int) (hc:W.cell? ⟨b,0,none⟩=some (.int .i64 i)) (p:Pf) (a:Option Addr) (n c:Nat) :
 Calls Tryz.prog 83 #[.agg (pfA p (.slice a n c)),.pointer (some ⟨b,0,none⟩)] W fun e V=>e=.returned (.bool (pAt i p))∧Below W.heap.size W V:=by
 obtain ⟨p0,⟨x0,x1,x2,x3⟩,q⟩:=p
 have X:=SBox.new W 55 #[.int .i64 p0,.int .i64 x0,.int .i64 x1,.string ⟨x2.toArray⟩,.string ⟨x3.toArray⟩,.slice a n c]
 have B:=(Below.refl W.heap.size W).alloc (Nat.le_refl _) (.cells #[.int .i64 p0,.int .i64 x0,.int .i64 x1,.string ⟨x2.toArray⟩,.string ⟨x3.toArray⟩,.slice a n c] 55)
 have k:=(B.cell (p:=⟨b,0,none⟩) (World.block_lt_of_cell? W _ hc)).trans hc
 have c0:=X.cell 0 _ rfl
 obtain ⟨r,hr⟩:∃ r,pAt i (p0,(x0,x1,x2,x3),q)=r:=⟨_,rfl⟩
 rw [hr]
 have g1:(p0==i)=r:=hr
 clear hr hc X
 go_enter Tryz.func83,Tryz.ntmps83
 go_wp2_with fail
 go_ret
 exact ⟨rfl,B⟩
set_option maxHeartbeats 2000000 in
theorem pend15_any (W:World) (b:Nat) (t:Int) (hc:W.cell? ⟨b,0,none⟩=some (.int .i64 t)) (p:Pf) (a:Option Addr) (n c:Nat) :
 Calls Tryz.prog 84 #[.agg (pfA p (.slice a n c)),.pointer (some ⟨b,0,none⟩)] W fun e V=>e=.returned (.bool (pEnd t p))∧Below W.heap.size W V:=by
 obtain ⟨p0,⟨x0,x1,x2,x3⟩,q⟩:=p
 have X:=SBox.new W 55 #[.int .i64 p0,.int .i64 x0,.int .i64 x1,.string ⟨x2.toArray⟩,.string ⟨x3.toArray⟩,.slice a n c]
 have B:=(Below.refl W.heap.size W).alloc (Nat.le_refl _) (.cells #[.int .i64 p0,.int .i64 x0,.int .i64 x1,.string ⟨x2.toArray⟩,.string ⟨x3.toArray⟩,.slice a n c] 55)
 have k:=(B.cell (p:=⟨b,0,none⟩) (World.block_lt_of_cell? W _ hc)).trans hc
 have c1:=X.cell 1 _ rfl
 have c2:=X.cell 2 _ rfl
 have hp:pEnd t (p0,(x0,x1,x2,x3),q)=((x1==t)&&((x0==4) || (x0==5))):=rfl
 rw [hp]
 obtain ⟨r1,g1⟩:∃ r,(x1==t)=r:=⟨_,rfl⟩
 obtain ⟨r2,g2⟩:∃ r,(x0==4)=r:=⟨_,rfl⟩
 obtain ⟨r3,g3⟩:∃ r,(x0==5)=r:=⟨_,rfl⟩
 rw [g1,g2,g3]
 clear hp hc X
 cases r1<;>cases r2<;>cases r3
 all_goals
  go_enter Tryz.func84,Tryz.ntmps84
  go_wp2_with fail
  go_ret
  exact ⟨rfl,B⟩
set_option maxHeartbeats 2000000 in
theorem pwr15_any (W:World) (b:Nat) (y:Ev) (hc:SBox W b 53 (evA15 y)) (p:Pf) (a:Option Addr) (n c:Nat) :
 Calls Tryz.prog 114 #[.agg (pfA p (.slice a n c)),.pointer (some ⟨b,0,none⟩)] W fun e V=>e=.returned (.bool (pWr y.2.2.1 y.2.2.2 p))∧Below W.heap.size W V:=by
 obtain ⟨p0,⟨x0,x1,x2,x3⟩,q⟩:=p
 obtain ⟨y0,y1,y2,y3⟩:=y
 have X:=SBox.new W 55 #[.int .i64 p0,.int .i64 x0,.int .i64 x1,.string ⟨x2.toArray⟩,.string ⟨x3.toArray⟩,.slice a n c]
 have Y:=hc.alloc (.cells #[.int .i64 p0,.int .i64 x0,.int .i64 x1,.string ⟨x2.toArray⟩,.string ⟨x3.toArray⟩,.slice a n c] 55)
 have B:=(Below.refl W.heap.size W).alloc (Nat.le_refl _) (.cells #[.int .i64 p0,.int .i64 x0,.int .i64 x1,.string ⟨x2.toArray⟩,.string ⟨x3.toArray⟩,.slice a n c] 55)
 have k2:=Y.cell 2 _ rfl
 have k3:=Y.cell 3 _ rfl
 have c1:=X.cell 1 _ rfl
 have c3:=X.cell 3 _ rfl
 have c4:=X.cell 4 _ rfl
 have hp:pWr y2 y3 (p0,(x0,x1,x2,x3),q)=((x0==3)&&(x2==y2)&&(x3==y3)):=by rw [← dec_beq15,← dec_beq15];rfl
 rw [hp]
 obtain ⟨r1,g1⟩:∃ r,(x0==3)=r:=⟨_,rfl⟩
 obtain ⟨r2,g2⟩:∃ r,(x2==y2)=r:=⟨_,rfl⟩
 obtain ⟨r3,g3⟩:∃ r,(x3==y3)=r:=⟨_,rfl⟩
 rw [g1,g2,g3]
 clear hp hc X Y
 cases r1<;>cases r2<;>cases r3
 all_goals
  go_enter Tryz.func114,Tryz.ntmps114
  go_wp2_with fail
  go_ret
  exact ⟨rfl,B⟩
def PfCall (K:Nat) (caps:Array Value) (W:World) (f:Pf→Bool):Prop:=∀ V,Below W.heap.size W V→∀ (p:Pf) (a:Option Addr) (n c:Nat),Calls Tryz.prog K (#[.agg (pfA p (.slice a n c))]++caps) V fun e V'=>e=.returned (.bool (f p))∧Below V.heap.size V V'
set_option maxHeartbeats 2000000 in
theorem pidx15_any (l:List Pf) (v:Value) (W:World) (hP:IsPfs W v l) (K:Nat) (hK:∀ args V,(callFunc K args).run Tryz.prog V=.ok (.enter K args) V) (caps:Array Value) (f:Pf→Bool) (hf:PfCall K caps W f) :
 Calls Tryz.prog 113 #[v,.func (.func K) #[] caps] W fun e W'=>e=.returned (.int .i64 (oI (fp f l)))∧Below W.heap.size W W':=by
 obtain ⟨a,cap,rfl,h1,h2,h3,HC⟩:=hP.reads
 have C:=Lib.hid hf
 obtain ⟨nn,hn⟩:∃ n,l.length=n:=⟨_,rfl⟩
 have HN:=Lib.hid hn
 have HFp:Hid (fp f l=fi (fun k=>f (pf15 l k)) nn):=by show _=_;rw [← hn];rfl
 rw [hn] at h1 h3 ⊢
 clear hn hP hf
 go_enter Tryz.func113,Tryz.ntmps113
 go_wp2_with fail
 go_loopw [8] (fun i wr=>∃ k:Nat,k≤nn∧i=.int .i64 k∧Hid (∀ j,j < k→f (pf15 l j)=false)∧Below W.heap.size W wr) (fun i _=>nn - (RowKit.intOf i).toNat)
 case atStart=>exact ⟨0,Nat.zero_le _,rfl,(fun j hj=>absurd hj (by omega)),Below.refl _ _⟩
 case round =>
  obtain ⟨k,hk,rfl,HF,hB⟩:=hrel
  by_cases hlt:k < nn
  ·have j0:(k:Int) < (nn:Int):=by omega
   have hkl:k < l.length:=by have:=HN.out;omega
   obtain ⟨bb,off,rfl,u,hu,HQ⟩:=HC.out k hkl
   obtain ⟨c0,c1,c2,c3,c4,c5⟩:=HQ wr hB
   obtain ⟨ua,uc,rfl,_⟩:=hu.some_at
   have D:=C.out wr hB l[k] ua l[k].2.2.length uc
   have HI:Hid (f (pf15 l k)=f l[k]):=by show _=_;rw [pf15_at l k hkl]
   obtain ⟨bl,hbl⟩:∃ bl,f l[k]=bl:=⟨_,rfl⟩
   rw [hbl] at D HI
   obtain ⟨⟨y0,⟨x0,x1,x2,x3⟩,q⟩,hx⟩:∃ x,l[k]=x:=⟨_,rfl⟩
   rw [hx] at c0 c1 c2 c3 c4 c5 D
   simp only at c0 c1 c2 c3 c4 c5 D
   obtain ⟨un,hun⟩:∃ x,q.length=x:=⟨_,rfl⟩
   rw [hun] at c5 D
   clear hbl hx hun hu HQ
   cases bl with
   | true =>
     have HE:Hid (fp f l=some k):=HFp.out.trans ((fi_some _ _ _).2 ⟨hlt,HI.out,HF.out⟩)
     go_wp2_with fail
     refine D.mono ?_
     rintro e1 w1 ⟨rfl,b1⟩
     go_wp2_with fail
     go_ret
     refine ⟨?_,bel_trans hB b1⟩
     rw [HE.out]
     rfl
   | false =>
     go_wp2_with fail
     refine D.mono ?_
     rintro e1 w1 ⟨rfl,b1⟩
     go_wp2_with fail
     refine ⟨⟨k+1,by omega,by first | go_num | simp,?_,bel_trans hB b1⟩,by simp [RowKit.intOf];omega⟩
     intro j hj
     rcases Nat.lt_succ_iff_lt_or_eq.1 hj with h' | rfl
     ·exact HF.out j h'
     ·exact HI.out
  ·obtain rfl:k=nn:=by omega
   have jq:¬ (k:Int) < (k:Int):=by omega
   have HE:Hid (fp f l=none):=HFp.out.trans ((fi_none _ _).2 HF.out)
   go_wp2_with fail
   go_ret
   refine ⟨?_,hB⟩
   rw [HE.out]
   rfl
def FstRes (w:World) (l:List Pf) (o:Option Nat) (e:Ending) (w':World):Prop:=∃ a n c,e=.returned (.tuple #[.agg (pfA (gotO l o) (.slice a n c)),.bool o.isSome])∧Below w.heap.size w w'
set_option maxHeartbeats 2000000 in
theorem pfirst15_any (l:List Pf) (v:Value) (w:World) (hP:IsPfs w v l) (K:Nat) (hK:∀ args V,(callFunc K args).run Tryz.prog V=.ok (.enter K args) V) (caps:Array Value) (f:Pf→Bool) (hf:PfCall K caps w f) :
 Calls Tryz.prog 82 #[v,.func (.func K) #[] caps] w fun e w'=>FstRes w l (fp f l) e w':=by
 have X0:=SBox.new w 55 #[.int .i64 0,.int .i64 0,.int .i64 0,.string ⟨#[]⟩,.string ⟨#[]⟩,.slice none 0 0]
 have B0:=(Below.refl w.heap.size w).alloc (Nat.le_refl _) (.cells #[.int .i64 0,.int .i64 0,.int .i64 0,.string ⟨#[]⟩,.string ⟨#[]⟩,.slice none 0 0] 55)
 have D:=pidx15_any l v _ (hP.below B0) K hK caps f (fun V hV=>hf V (bel_trans B0 hV))
 obtain ⟨a,cap,rfl,h1,h2,h3,HC⟩:=hP.reads
 have HS:=Lib.hid (fun k=>fp_some f l k)
 obtain ⟨nn,hn⟩:∃ n,l.length=n:=⟨_,rfl⟩
 have HN:=Lib.hid hn
 rw [hn] at h1 h3 D ⊢
 clear hn hP hf
 cases ho:fp f l with
 | none =>
   rw [ho] at D
   have HO:Hid (oI none=-1):=rfl
   rw [HO.out] at D
   clear ho
   go_enter Tryz.func82,Tryz.ntmps82
   go_wp2_with fail
   refine D.mono ?_
   rintro e1 w1 ⟨rfl,b1⟩
   have X1:=X0.below b1
   have B1:=bel_trans B0 b1
   have x0:=X1.cell 0 _ rfl
   have x1:=X1.cell 1 _ rfl
   have x2:=X1.cell 2 _ rfl
   have x3:=X1.cell 3 _ rfl
   have x4:=X1.cell 4 _ rfl
   have x5:=X1.cell 5 _ rfl
   have f0:=X1.frozen 0
   have f1:=X1.frozen 1
   have f2:=X1.frozen 2
   have f3:=X1.frozen 3
   have f4:=X1.frozen 4
   have f5:=X1.frozen 5
   have SP:=Lib.hid (SBox.putL [.int .i64 0,.int .i64 0,.int .i64 0,.string ⟨#[]⟩,.string ⟨#[]⟩,.slice none 0 0] [] [.int .i64 0,.int .i64 0,.int .i64 0,.string ⟨#[]⟩,.string ⟨#[]⟩,.slice none 0 0] w1 rfl X1)
   have K1:=kept_putL (B:=w.heap.size) [.int .i64 0,.int .i64 0,.int .i64 0,.string ⟨#[]⟩,.string ⟨#[]⟩,.slice none 0 0] 0 w1
   have BP:=B1.grown K1 B1.size (fun q h9=>by cases h9;exact Nat.le_refl _)
   have HR:Hid (FstRes w l none (.returned (.tuple #[.agg #[.int .i64 0,.int .i64 0,.int .i64 0,.string ⟨#[]⟩,.string ⟨#[]⟩,.slice none 0 0],.bool false])) _):=⟨none,0,0,rfl,BP⟩
   go_wp2_with fail
   exact bodyPost_ret (v:=.tuple #[.agg #[.int .i64 0,.int .i64 0,.int .i64 0,.string ⟨#[]⟩,.string ⟨#[]⟩,.slice none 0 0],.bool false]) (results_row_tmp Tryz.results82 _ _ w.heap.size 55 _ (0,0) _ rfl SP.out Tryz.underlying55 rfl size_pf15) rfl HR.out
 | some k =>
   obtain ⟨k1,k2,k3⟩:=(HS.out k).1 ho
   rw [ho] at D
   have hkn:k < nn:=by have:=HN.out;omega
   obtain ⟨bb,off,rfl,u,hu,HQ⟩:=HC.out k k1
   obtain ⟨ua,uc,rfl,_⟩:=hu.some_at
   have HG:Hid (gotO l (some k)=l[k]):=pf15_at l k k1
   have HQ':=Lib.hid HQ
   obtain ⟨⟨y0,⟨z0,z1,z2,z3⟩,q⟩,hx⟩:∃ x,l[k]=x:=⟨_,rfl⟩
   obtain ⟨un,hun⟩:∃ x,q.length=x:=⟨_,rfl⟩
   have HX:=Lib.hid hx
   have HU:=Lib.hid hun
   have j0:(k:Int) < (nn:Int):=by omega
   have j1:decide ((k:Int) < 0)=false:=decide_eq_false (by omega)
   clear ho k2 k3 hu HQ HS hx hun
   have HO:Hid (oI (some k)=(k:Int)):=rfl
   rw [HO.out] at D
   go_enter Tryz.func82,Tryz.ntmps82
   go_wp2_with fail
   refine D.mono ?_
   rintro e1 w1 ⟨rfl,b1⟩
   have X1:=X0.below b1
   have B1:=bel_trans B0 b1
   obtain ⟨c0,c1,c2,c3,c4,c5⟩:=HQ'.out w1 B1
   rw [HX.out] at c0 c1 c2 c3 c4 c5
   simp only at c0 c1 c2 c3 c4 c5
   rw [HU.out] at c5
   have x0:=X1.cell 0 _ rfl
   have x1:=X1.cell 1 _ rfl
   have x2:=X1.cell 2 _ rfl
   have x3:=X1.cell 3 _ rfl
   have x4:=X1.cell 4 _ rfl
   have x5:=X1.cell 5 _ rfl
   have f0:=X1.frozen 0
   have f1:=X1.frozen 1
   have f2:=X1.frozen 2
   have f3:=X1.frozen 3
   have f4:=X1.frozen 4
   have f5:=X1.frozen 5
   have SP:=Lib.hid (SBox.putL [.int .i64 y0,.int .i64 z0,.int .i64 z1,.string ⟨z2.toArray⟩,.string ⟨z3.toArray⟩,.slice ua un uc] [] [.int .i64 0,.int .i64 0,.int .i64 0,.string ⟨#[]⟩,.string ⟨#[]⟩,.slice none 0 0] w1 rfl X1)
   have K1:=kept_putL (B:=w.heap.size) [.int .i64 y0,.int .i64 z0,.int .i64 z1,.string ⟨z2.toArray⟩,.string ⟨z3.toArray⟩,.slice ua un uc] 0 w1
   have BP:=B1.grown K1 B1.size (fun q h9=>by cases h9;exact Nat.le_refl _)
   have HR:Hid (FstRes w l (some k) (.returned (.tuple #[.agg #[.int .i64 y0,.int .i64 z0,.int .i64 z1,.string ⟨z2.toArray⟩,.string ⟨z3.toArray⟩,.slice ua un uc],.bool true])) _):=⟨ua,un,uc,by rw [HG.out,HX.out];rfl,BP⟩
   clear K1 BP D hK
   go_wp2_with fail
   exact bodyPost_ret (v:=.tuple #[.agg #[.int .i64 y0,.int .i64 z0,.int .i64 z1,.string ⟨z2.toArray⟩,.string ⟨z3.toArray⟩,.slice ua un uc],.bool true]) (results_row_tmp Tryz.results82 _ _ w.heap.size 55 _ (0,0) _ rfl SP.out Tryz.underlying55 rfl size_pf15) rfl HR.out
set_option maxHeartbeats 2000000 in
theorem pevent15_any (l:List Pf) (v:Value) (w:World) (hP:IsPfs w v l) (i:Int) :
 Calls Tryz.prog 39 #[v,.int .i64 i] w fun e w'=>e=.returned (.agg (evA15 (evP l i)))∧Below w.heap.size w w':=by
 have b0:=(Below.refl w.heap.size w).alloc (Nat.le_refl _) (.cells #[.int .i64 i] 3)
 have b1:=b0.alloc (by simp) (.cells #[.int .i64 0,.int .i64 0,.string ⟨#[]⟩,.string ⟨#[]⟩] 53)
 have Y0:=SBox.new w 3 #[.int .i64 i]
 have Y1:=Y0.alloc (.cells #[.int .i64 0,.int .i64 0,.string ⟨#[]⟩,.string ⟨#[]⟩] 53)
 have X1:=SBox.new (w.alloc (.cells #[.int .i64 i] 3)) 53 #[.int .i64 0,.int .i64 0,.string ⟨#[]⟩,.string ⟨#[]⟩]
 rw [World.size_alloc] at X1
 have hE:=enters_of Tryz.func83 (by kernel_rfl) rfl
 have D:=pfirst15_any l v _ (hP.below b1) 83 hE #[.pointer (some ⟨w.heap.size,0,none⟩)] (pAt i) (fun V hV p a n c=>pat15_any V w.heap.size i ((Y1.below hV).cell 0 _ rfl) p a n c)
 have HG:Hid ((gotO l (fp (pAt i) l)).2.1=evP l i):=rfl
 generalize fp (pAt i) l=o at D HG
 generalize evP l i=Y at HG ⊢
 obtain ⟨a,cap,rfl,h1,h2,h3⟩:=hP.len
 obtain ⟨nn,hn⟩:∃ n,l.length=n:=⟨_,rfl⟩
 rw [hn] at h1 h3 D ⊢
 clear hn hP hE
 go_enter Tryz.func39,Tryz.ntmps39
 go_wp2_with fail
 refine D.mono ?_
 rintro e w1 ⟨a1,n1,c1,rfl,b2⟩
 have X2:=X1.below b2
 have B2:=bel_trans b1 b2
 generalize gotO l o=P at HG ⊢
 obtain ⟨p0,YP,q⟩:=P
 obtain rfl:YP=Y:=HG.out
 obtain ⟨x0,x1,x2,x3⟩:=YP
 have B3:=B2.alloc B2.size (.cells #[.int .i64 p0,.int .i64 x0,.int .i64 x1,.string ⟨x2.toArray⟩,.string ⟨x3.toArray⟩,.slice a1 n1 c1] 55)
 have Z3:=SBox.new w1 55 #[.int .i64 p0,.int .i64 x0,.int .i64 x1,.string ⟨x2.toArray⟩,.string ⟨x3.toArray⟩,.slice a1 n1 c1]
 have X3:=X2.alloc (.cells #[.int .i64 p0,.int .i64 x0,.int .i64 x1,.string ⟨x2.toArray⟩,.string ⟨x3.toArray⟩,.slice a1 n1 c1] 55)
 have z1:=Z3.cell 1 _ rfl
 have z2:=Z3.cell 2 _ rfl
 have z3:=Z3.cell 3 _ rfl
 have z4:=Z3.cell 4 _ rfl
 have y0:=X3.cell 0 _ rfl
 have y1:=X3.cell 1 _ rfl
 have y2:=X3.cell 2 _ rfl
 have y3:=X3.cell 3 _ rfl
 have f0:=X3.frozen 0
 have f1:=X3.frozen 1
 have f2:=X3.frozen 2
 have f3:=X3.frozen 3
 have SP:=Lib.hid (SBox.putL [.int .i64 x0,.int .i64 x1,.string ⟨x2.toArray⟩,.string ⟨x3.toArray⟩] [] [.int .i64 0,.int .i64 0,.string ⟨#[]⟩,.string ⟨#[]⟩] _ rfl X3)
 have K1:=kept_putL (B:=w.heap.size+1) [.int .i64 x0,.int .i64 x1,.string ⟨x2.toArray⟩,.string ⟨x3.toArray⟩] 0 (w1.alloc (.cells #[.int .i64 p0,.int .i64 x0,.int .i64 x1,.string ⟨x2.toArray⟩,.string ⟨x3.toArray⟩,.slice a1 n1 c1] 55))
 have BP:=B3.grown K1 B3.size (fun q h9=>by cases h9;omega)
 clear X1 X2 Y0 Y1 b0 b1 b2 B2 D HG
 go_wp2_with fail
 exact bodyPost_ret (v:=.agg #[.int .i64 x0,.int .i64 x1,.string ⟨x2.toArray⟩,.string ⟨x3.toArray⟩]) (results_row1 Tryz.results39 _ _ (w.heap.size+1) 53 _ (0,0) _ rfl SP.out Tryz.underlying53 rfl size_ev15) rfl ⟨rfl,BP⟩
set_option maxHeartbeats 2000000 in
theorem pends15_any (l:List Pf) (v:Value) (w:World) (hP:IsPfs w v l) (t:Int) :
 Calls Tryz.prog 41 #[v,.int .i64 t] w fun e w'=>(∃ a n c,e=.returned (.agg (pfA (endP l t) (.slice a n c))))∧Below w.heap.size w w':=by
 have b0:=(Below.refl w.heap.size w).alloc (Nat.le_refl _) (.cells #[.int .i64 t] 3)
 have b1:=b0.alloc (by simp) (.cells #[.int .i64 0,.int .i64 0,.int .i64 0,.string ⟨#[]⟩,.string ⟨#[]⟩,.slice none 0 0] 55)
 have Y0:=SBox.new w 3 #[.int .i64 t]
 have Y1:=Y0.alloc (.cells #[.int .i64 0,.int .i64 0,.int .i64 0,.string ⟨#[]⟩,.string ⟨#[]⟩,.slice none 0 0] 55)
 have X1:=SBox.new (w.alloc (.cells #[.int .i64 t] 3)) 55 #[.int .i64 0,.int .i64 0,.int .i64 0,.string ⟨#[]⟩,.string ⟨#[]⟩,.slice none 0 0]
 rw [World.size_alloc] at X1
 have hE:=enters_of Tryz.func84 (by kernel_rfl) rfl
 have D:=pfirst15_any l v _ (hP.below b1) 84 hE #[.pointer (some ⟨w.heap.size,0,none⟩)] (pEnd t) (fun V hV p a n c=>pend15_any V w.heap.size t ((Y1.below hV).cell 0 _ rfl) p a n c)
 have HG:Hid (gotO l (fp (pEnd t) l)=endP l t):=rfl
 generalize fp (pEnd t) l=o at D HG
 generalize endP l t=P at HG ⊢
 obtain ⟨a,cap,rfl,h1,h2,h3⟩:=hP.len
 obtain ⟨nn,hn⟩:∃ n,l.length=n:=⟨_,rfl⟩
 rw [hn] at h1 h3 D ⊢
 clear hn hP hE
 go_enter Tryz.func41,Tryz.ntmps41
 go_wp2_with fail
 refine D.mono ?_
 rintro e w1 ⟨a1,n1,c1,rfl,b2⟩
 have X2:=X1.below b2
 have B2:=bel_trans b1 b2
 rw [HG.out]
 obtain ⟨p0,⟨x0,x1,x2,x3⟩,q⟩:=P
 have B3:=B2.alloc B2.size (.cells #[.int .i64 p0,.int .i64 x0,.int .i64 x1,.string ⟨x2.toArray⟩,.string ⟨x3.toArray⟩,.slice a1 n1 c1] 55)
 have Z3:=SBox.new w1 55 #[.int .i64 p0,.int .i64 x0,.int .i64 x1,.string ⟨x2.toArray⟩,.string ⟨x3.toArray⟩,.slice a1 n1 c1]
 have X3:=X2.alloc (.cells #[.int .i64 p0,.int .i64 x0,.int .i64 x1,.string ⟨x2.toArray⟩,.string ⟨x3.toArray⟩,.slice a1 n1 c1] 55)
 have z0:=Z3.cell 0 _ rfl
 have z1:=Z3.cell 1 _ rfl
 have z2:=Z3.cell 2 _ rfl
 have z3:=Z3.cell 3 _ rfl
 have z4:=Z3.cell 4 _ rfl
 have z5:=Z3.cell 5 _ rfl
 have y0:=X3.cell 0 _ rfl
 have y1:=X3.cell 1 _ rfl
 have y2:=X3.cell 2 _ rfl
 have y3:=X3.cell 3 _ rfl
 have y4:=X3.cell 4 _ rfl
 have y5:=X3.cell 5 _ rfl
 have f0:=X3.frozen 0
 have f1:=X3.frozen 1
 have f2:=X3.frozen 2
 have f3:=X3.frozen 3
 have f4:=X3.frozen 4
 have f5:=X3.frozen 5
 have SP:=Lib.hid (SBox.putL [.int .i64 p0,.int .i64 x0,.int .i64 x1,.string ⟨x2.toArray⟩,.string ⟨x3.toArray⟩,.slice a1 n1 c1] [] [.int .i64 0,.int .i64 0,.int .i64 0,.string ⟨#[]⟩,.string ⟨#[]⟩,.slice none 0 0] _ rfl X3)
 have K1:=kept_putL (B:=w.heap.size+1) [.int .i64 p0,.int .i64 x0,.int .i64 x1,.string ⟨x2.toArray⟩,.string ⟨x3.toArray⟩,.slice a1 n1 c1] 0 (w1.alloc (.cells #[.int .i64 p0,.int .i64 x0,.int .i64 x1,.string ⟨x2.toArray⟩,.string ⟨x3.toArray⟩,.slice a1 n1 c1] 55))
 have BP:=B3.grown K1 B3.size (fun q h9=>by cases h9;omega)
 clear X1 X2 Y0 Y1 b0 b1 b2 B2 D HG
 go_wp2_with fail
 exact bodyPost_ret (v:=.agg #[.int .i64 p0,.int .i64 x0,.int .i64 x1,.string ⟨x2.toArray⟩,.string ⟨x3.toArray⟩,.slice a1 n1 c1]) (results_row1 Tryz.results41 _ _ (w.heap.size+1) 55 _ (0,0) _ rfl SP.out Tryz.underlying55 rfl size_pf15) rfl ⟨⟨a1,n1,c1,rfl⟩,BP⟩
set_option maxHeartbeats 2000000 in
theorem pcommit15_any (l:List Pf) (v:Value) (w:World) (hP:IsPfs w v l) (t:Int) :
 Calls Tryz.prog 40 #[v,.int .i64 t] w fun e w'=>e=.returned (.int .i64 (cmP l t))∧Below w.heap.size w w':=by
 have D:=pends15_any l v w hP t
 have HC:Hid (cmP l t=if (endP l t).2.1.1=4∧0≤(endP l t).1 then (endP l t).1 else -1):=rfl
 obtain ⟨a,cap,rfl,h1,h2,h3⟩:=hP.len
 obtain ⟨nn,hn⟩:∃ n,l.length=n:=⟨_,rfl⟩
 rw [hn] at h1 h3 D ⊢
 rw [HC.out]
 generalize endP l t=P at D ⊢
 obtain ⟨p0,⟨x0,x1,x2,x3⟩,q⟩:=P
 simp only at D ⊢
 clear hn hP HC
 by_cases d1:x0=4
 ·have e1:(x0==4)=true:=by rw [d1];rfl
  by_cases d2:0≤p0
  ·have e2:decide (p0 ≥ 0)=true:=decide_eq_true d2
   rw [if_pos ⟨d1,d2⟩]
   clear d1
   go_enter Tryz.func40,Tryz.ntmps40
   go_wp2_with fail
   refine D.mono ?_
   rintro e w1 ⟨⟨a1,n1,c1,rfl⟩,b1⟩
   have Z:=SBox.new w1 55 #[.int .i64 p0,.int .i64 x0,.int .i64 x1,.string ⟨x2.toArray⟩,.string ⟨x3.toArray⟩,.slice a1 n1 c1]
   have B:=b1.alloc b1.size (.cells #[.int .i64 p0,.int .i64 x0,.int .i64 x1,.string ⟨x2.toArray⟩,.string ⟨x3.toArray⟩,.slice a1 n1 c1] 55)
   have z0:=Z.cell 0 _ rfl
   have z1:=Z.cell 1 _ rfl
   go_wp2_with fail
   go_ret
   exact ⟨rfl,B⟩
  ·have e2:decide (p0 ≥ 0)=false:=decide_eq_false d2
   rw [if_neg (fun h=>d2 h.2)]
   clear d1
   go_enter Tryz.func40,Tryz.ntmps40
   go_wp2_with fail
   refine D.mono ?_
   rintro e w1 ⟨⟨a1,n1,c1,rfl⟩,b1⟩
   have Z:=SBox.new w1 55 #[.int .i64 p0,.int .i64 x0,.int .i64 x1,.string ⟨x2.toArray⟩,.string ⟨x3.toArray⟩,.slice a1 n1 c1]
   have B:=b1.alloc b1.size (.cells #[.int .i64 p0,.int .i64 x0,.int .i64 x1,.string ⟨x2.toArray⟩,.string ⟨x3.toArray⟩,.slice a1 n1 c1] 55)
   have z0:=Z.cell 0 _ rfl
   have z1:=Z.cell 1 _ rfl
   go_wp2_with fail
   go_ret
   exact ⟨rfl,B⟩
 ·have e1:(x0==4)=false:=beq_eq_false_iff_ne.2 d1
  rw [if_neg (fun h=>d1 h.1)]
  go_enter Tryz.func40,Tryz.ntmps40
  go_wp2_with fail
  refine D.mono ?_
  rintro e w1 ⟨⟨a1,n1,c1,rfl⟩,b1⟩
  have Z:=SBox.new w1 55 #[.int .i64 p0,.int .i64 x0,.int .i64 x1,.string ⟨x2.toArray⟩,.string ⟨x3.toArray⟩,.slice a1 n1 c1]
  have B:=b1.alloc b1.size (.cells #[.int .i64 p0,.int .i64 x0,.int .i64 x1,.string ⟨x2.toArray⟩,.string ⟨x3.toArray⟩,.slice a1 n1 c1] 55)
  have z0:=Z.cell 0 _ rfl
  have z1:=Z.cell 1 _ rfl
  go_wp2_with fail
  go_ret
  exact ⟨rfl,B⟩
set_option maxHeartbeats 2000000 in
theorem pwriter15_any (l:List Pf) (v:Value) (w:World) (hP:IsPfs w v l) (y:Ev) :
 Calls Tryz.prog 85 #[v,.agg (evA15 y)] w fun e w'=>FstRes w l (wrP l y.2.2.1 y.2.2.2) e w':=by
 obtain ⟨y0,y1,y2,y3⟩:=y
 have b0:=(Below.refl w.heap.size w).alloc (Nat.le_refl _) (.cells #[.int .i64 y0,.int .i64 y1,.string ⟨y2.toArray⟩,.string ⟨y3.toArray⟩] 53)
 have b1:=b0.alloc (by simp) (.cells #[.int .i64 0,.int .i64 0,.int .i64 0,.string ⟨#[]⟩,.string ⟨#[]⟩,.slice none 0 0] 55)
 have Y0:=SBox.new w 53 #[.int .i64 y0,.int .i64 y1,.string ⟨y2.toArray⟩,.string ⟨y3.toArray⟩]
 have Y1:=Y0.alloc (.cells #[.int .i64 0,.int .i64 0,.int .i64 0,.string ⟨#[]⟩,.string ⟨#[]⟩,.slice none 0 0] 55)
 have X1:=SBox.new (w.alloc (.cells #[.int .i64 y0,.int .i64 y1,.string ⟨y2.toArray⟩,.string ⟨y3.toArray⟩] 53)) 55 #[.int .i64 0,.int .i64 0,.int .i64 0,.string ⟨#[]⟩,.string ⟨#[]⟩,.slice none 0 0]
 rw [World.size_alloc] at X1
 have hE:=enters_of Tryz.func114 (by kernel_rfl) rfl
 have D:=pfirst15_any l v _ (hP.below b1) 114 hE #[.pointer (some ⟨w.heap.size,0,none⟩)] (pWr y2 y3) (fun V hV p a n c=>pwr15_any V w.heap.size (y0,y1,y2,y3) (Y1.below hV) p a n c)
 have HG:Hid (fp (pWr y2 y3) l=wrP l y2 y3):=rfl
 rw [HG.out] at D
 show Calls _ _ _ _ fun e w'=>FstRes w l (wrP l y2 y3) e w'
 generalize wrP l y2 y3=o at D ⊢
 obtain ⟨a,cap,rfl,h1,h2,h3⟩:=hP.len
 obtain ⟨nn,hn⟩:∃ n,l.length=n:=⟨_,rfl⟩
 rw [hn] at h1 h3 D ⊢
 clear hn hP hE HG
 go_enter Tryz.func85,Tryz.ntmps85
 go_wp2_with fail
 refine D.mono ?_
 rintro e w1 ⟨a1,n1,c1,rfl,b2⟩
 have X3:=X1.below b2
 have B3:=bel_trans b1 b2
 obtain ⟨os,hos⟩:∃ x,o.isSome=x:=⟨_,rfl⟩
 obtain ⟨P,hPo⟩:∃ P,gotO l o=P:=⟨_,rfl⟩
 have HPo:=Lib.hid hPo
 rw [hPo,hos]
 clear hPo
 obtain ⟨p0,⟨x0,x1,x2,x3⟩,q⟩:=P
 have y0':=X3.cell 0 _ rfl
 have y1':=X3.cell 1 _ rfl
 have y2':=X3.cell 2 _ rfl
 have y3':=X3.cell 3 _ rfl
 have y4':=X3.cell 4 _ rfl
 have y5':=X3.cell 5 _ rfl
 have f0:=X3.frozen 0
 have f1:=X3.frozen 1
 have f2:=X3.frozen 2
 have f3:=X3.frozen 3
 have f4:=X3.frozen 4
 have f5:=X3.frozen 5
 have SP:=Lib.hid (SBox.putL [.int .i64 p0,.int .i64 x0,.int .i64 x1,.string ⟨x2.toArray⟩,.string ⟨x3.toArray⟩,.slice a1 n1 c1] [] [.int .i64 0,.int .i64 0,.int .i64 0,.string ⟨#[]⟩,.string ⟨#[]⟩,.slice none 0 0] _ rfl X3)
 have K1:=kept_putL (B:=w.heap.size+1) [.int .i64 p0,.int .i64 x0,.int .i64 x1,.string ⟨x2.toArray⟩,.string ⟨x3.toArray⟩,.slice a1 n1 c1] 0 w1
 have BP:=B3.grown K1 B3.size (fun q h9=>by cases h9;omega)
 have HR:Hid (FstRes w l o (.returned (.tuple #[.agg #[.int .i64 p0,.int .i64 x0,.int .i64 x1,.string ⟨x2.toArray⟩,.string ⟨x3.toArray⟩,.slice a1 n1 c1],.bool os])) _):=⟨a1,n1,c1,by rw [HPo.out,hos],BP⟩
 clear X1 Y0 Y1 b0 b1 b2 D HPo hos
 go_wp2_with fail
 exact bodyPost_ret (v:=.tuple #[.agg #[.int .i64 p0,.int .i64 x0,.int .i64 x1,.string ⟨x2.toArray⟩,.string ⟨x3.toArray⟩,.slice a1 n1 c1],.bool os]) (results_row_tmp Tryz.results85 _ _ (w.heap.size+1) 55 _ (0,0) _ rfl SP.out Tryz.underlying55 rfl size_pf15) rfl HR.out
end Go.Proofs.YthamoeekiglphaaGreatDoor
