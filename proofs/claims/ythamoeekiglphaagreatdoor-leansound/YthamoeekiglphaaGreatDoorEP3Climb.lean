/-
  What tree.climb answers, by blake.Sum.
-/
import Derived.Test.YthamoeekiglphaaGreatDoorEL1b
namespace Go.Proofs.YthamoeekiglphaaGreatDoor
set_option maxRecDepth 100000
open Go.RowKit Go.Shelf
set_option linter.unusedVariables false
attribute [local go_sem] Oper.semAt_some ba_size
abbrev sumF:Value:=.func (.func 78) #[] #[]
set_option maxHeartbeats 1000000 in
theorem pclimb_arg (n i:Int) (s:List UInt8) (v:Value) (p:List (List UInt8)) (w:World) (hT:IsTxt w v p) (hb:n < 1∨4096 < n∨i < 0∨n≤i) :
 Calls Tryz.prog 110 #[sumF,.int .i64 n,.int .i64 i,.string ⟨s.toArray⟩,v] w fun e w'=>e=.returned (.tuple #[.slice none 0 0,.int .i64 1])∧Below w.heap.size w w':=by
 obtain ⟨a,cap,rfl,h1,h2,h3⟩:=hT.len;clear hT;have hBB:∀ o1 o2,Below w.heap.size w ((w.alloc o1).alloc o2):=fun o1 o2=>((Below.refl _ w).alloc (Nat.le_refl _) _).alloc (by simp) _
 by_cases h1:n < 1
 ·go_enter Tryz.func110,Tryz.ntmps110
  go_wp2_with fail
  go_ret2
  exact ⟨rfl,hBB _ _⟩
 ·by_cases h2:4096 < n
  ·go_enter Tryz.func110,Tryz.ntmps110
   go_wp2_with fail
   go_ret2
   exact ⟨rfl,hBB _ _⟩
  ·have hP:=fun w1=>pisPlace_any n i w1
   rw [show decide (0≤i∧i < n)=false from decide_eq_false (by omega)] at hP;go_enter Tryz.func110,Tryz.ntmps110
   go_wp2_with fail
   refine (hP _).mono ?_;rintro e w1 ⟨rfl,rfl⟩;go_wp2_with fail
   go_ret2
   exact ⟨rfl,hBB _ _⟩
set_option maxHeartbeats 1000000 in
theorem pclimb_no (n i:Nat) (h1n:1≤n) (h4:n≤4096) (hi:i < n) (s:List UInt8) (v:Value) (p:List (List UInt8)) (w:World) (hT:IsTxt w v p) (hb:¬ (p.length=(sidesS n 0 n i (Nat.le_refl _)).length∧∀ x∈p,x.length=32)) :
 Calls Tryz.prog 110 #[sumF,.int .i64 n,.int .i64 i,.string ⟨s.toArray⟩,v] w fun e w'=>e=.returned (.tuple #[.slice none 0 0,.int .i64 14])∧Below w.heap.size w w':=by
 have hT0:=hT;obtain ⟨a,cap,rfl,h1,h2,h3⟩:=hT.len;have hBB:∀ o1 o2,Below w.heap.size w ((w.alloc o1).alloc o2):=fun o1 o2=>((Below.refl _ w).alloc (Nat.le_refl _) _).alloc (by simp) _
 have hP:=fun w1=>pisPlace_any n i w1
 rw [show decide (0≤(i:Int)∧(i:Int) < (n:Int))=true from decide_eq_true (by omega)] at hP;have hF:=fun w1 h=>pfits_any n i h4 hi p (.slice a p.length cap) w1 h
 rw [show decide (p.length=(sidesS n 0 n i (Nat.le_refl _)).length∧∀ x∈p,x.length=32)=false from decide_eq_false hb] at hF;have i0:¬ (n:Int) < 1:=by omega
 have i1:¬ (4096:Int) < (n:Int):=by omega
 clear hb hT;go_enter Tryz.func110,Tryz.ntmps110
 go_wp2_with fail
 refine (hP _).mono ?_;rintro e w1 ⟨rfl,rfl⟩;go_wp2_with fail
 refine (hF _ (hT0.below (hBB _ _))).mono ?_;rintro e w2 ⟨rfl,hb2⟩;go_wp2_with fail
 go_ret2
 exact ⟨rfl,bel_trans (hBB _ _) hb2⟩
set_option maxHeartbeats 2000000 in
theorem pclimb_ok (n i:Nat) (h1n:1≤n) (h4:n≤4096) (hi:i < n) (s:List UInt8) (hs:s.length≤1125899906842500) (v:Value) (p:List (List UInt8)) (w:World) (hG:G w) (hT:IsTxt w v p) (hpl:p.length=(sidesS n 0 n i (Nat.le_refl _)).length) (hp32:∀ x∈p,x.length=32) :
 Calls Tryz.prog 110 #[sumF,.int .i64 n,.int .i64 i,.string ⟨s.toArray⟩,v] w fun e w'=>ClRes w (climbL sumL n i s p) e w':=by
 obtain ⟨i0',hi',hz0,hz1,hz2⟩:=info_parts str_info;have hT0:=hT;obtain ⟨a,cap,rfl,h1,h2,h3⟩:=hT.len;have hBB:∀ o1 o2,Below w.heap.size w ((w.alloc o1).alloc o2):=fun o1 o2=>((Below.refl _ w).alloc (Nat.le_refl _) _).alloc (by simp) _
 have hP:=fun w1=>pisPlace_any n i w1
 rw [show decide (0≤(i:Int)∧(i:Int) < (n:Int))=true from decide_eq_true (by omega)] at hP;have hF:=fun w1 h=>pfits_any n i h4 hi p (.slice a p.length cap) w1 h
 rw [show decide (p.length=(sidesS n 0 n i (Nat.le_refl _)).length∧∀ x∈p,x.length=32)=true from decide_eq_true ⟨hpl,hp32⟩] at hF;have i0:¬ (n:Int) < 1:=by omega
 have i1:¬ (4096:Int) < (n:Int):=by omega
 have hLf:=fun w1=>pleafIn_any s (by omega) w1
 have HPL:Hid (p.length=(sidesS n 0 n i (Nat.le_refl _)).length):=hpl;have HP32:Hid (∀ x∈p,x.length=32):=hp32;clear hpl hp32;refine (callsIn_wide (n:=3)).1 ?_;refine callsIn_of_wp_marks Tryz.func110 rfl trivial ?_ rfl;simp only [Tryz.ntmps110,List.size_toArray,List.length_cons,List.length_nil,Nat.reduceAdd,Nat.reduceSub,Array.replicate_succ,Array.replicate_zero,List.push_toArray,List.append_toArray,List.nil_append,List.cons_append]
 gi_wp2_with (first
  | ((try refine ⟨trivial,?_⟩);gi_at_call 128;refine (callsIn_wide.2 (hP _)).mono ?_;rintro e w1 ⟨rfl,rfl⟩)
  | ((try refine ⟨trivial,?_⟩);gi_at_call 129;refine (callsIn_wide.2 (hF _ (hT0.below (hBB _ _)))).mono ?_;rintro e w1 ⟨rfl,hb1⟩)
  | ((try refine ⟨trivial,?_⟩);gi_at_call 130;refine (callsIn_wide.2 (hLf _)).mono ?_;rintro e w2 ⟨rfl,rfl⟩)
  | ((try refine ⟨trivial,?_⟩);gi_at_call 131;refine (callsIn_wide.2 (sides_any _ _ _)).mono ?_;rintro e w2 ⟨rfl,rfl⟩))
 have hm2:w.heap.size+1+1≤w2.heap.size:=by have:=hb1.size;simp at this;omega
 have hBw2:Below w.heap.size w w2:=(hBB _ _).trans (hb1.mono (by simp;omega));have d1:w2.cell? ⟨w.heap.size,0,none⟩=some sumF:=(hb1.cell (p:=⟨w.heap.size,0,none⟩) (by simp;omega)).trans (cell_al _ (Boxed.new w 58 _).cell);have d2:w2.cell? ⟨w.heap.size+1,0,none⟩=some (.slice a p.length cap):=(hb1.cell (p:=⟨w.heap.size+1,0,none⟩) (by simp)).trans (by have:=(Boxed.new (w.alloc (.cells #[sumF] 58)) 45 (.slice a p.length cap)).cell;rwa [World.size_alloc] at this);have b0:Boxed ((((((w2.alloc (.cells #[.string ⟨(leafI s).toArray⟩] 9)).alloc (.cells #[.string ⟨(leafI s).toArray⟩] 9)).alloc (.cells #[.slice (some ⟨w2.heap.size+1,0,none⟩) 1 1] 45)).alloc (.cells #[.int .i64 0] 3)).alloc (.cells #[.int .i64 n] 3)).alloc (.cells #[.int .i64 i] 3)) (w2.heap.size) 9 (.string ⟨(leafI s).toArray⟩):=(((((Boxed.new w2 9 _).alloc _).alloc _).alloc _).alloc _).alloc _
 have b2:Boxed ((((((w2.alloc (.cells #[.string ⟨(leafI s).toArray⟩] 9)).alloc (.cells #[.string ⟨(leafI s).toArray⟩] 9)).alloc (.cells #[.slice (some ⟨w2.heap.size+1,0,none⟩) 1 1] 45)).alloc (.cells #[.int .i64 0] 3)).alloc (.cells #[.int .i64 n] 3)).alloc (.cells #[.int .i64 i] 3)) (w2.heap.size+1+1) 45 (.slice (some ⟨w2.heap.size+1,0,none⟩) 1 1):=by
  have:=(((Boxed.new ((w2.alloc (.cells #[.string ⟨(leafI s).toArray⟩] 9)).alloc (.cells #[.string ⟨(leafI s).toArray⟩] 9)) 45 (.slice (some ⟨w2.heap.size+1,0,none⟩) 1 1)).alloc (.cells #[.int .i64 0] 3)).alloc (.cells #[.int .i64 n] 3)).alloc (.cells #[.int .i64 i] 3)
  rwa [World.size_alloc,World.size_alloc] at this
 have b3:Boxed ((((((w2.alloc (.cells #[.string ⟨(leafI s).toArray⟩] 9)).alloc (.cells #[.string ⟨(leafI s).toArray⟩] 9)).alloc (.cells #[.slice (some ⟨w2.heap.size+1,0,none⟩) 1 1] 45)).alloc (.cells #[.int .i64 0] 3)).alloc (.cells #[.int .i64 n] 3)).alloc (.cells #[.int .i64 i] 3)) (w2.heap.size+1+1+1) 3 (.int .i64 0):=by
  have:=((Boxed.new (((w2.alloc (.cells #[.string ⟨(leafI s).toArray⟩] 9)).alloc (.cells #[.string ⟨(leafI s).toArray⟩] 9)).alloc (.cells #[.slice (some ⟨w2.heap.size+1,0,none⟩) 1 1] 45)) 3 (.int .i64 0)).alloc (.cells #[.int .i64 n] 3)).alloc (.cells #[.int .i64 i] 3)
  rwa [World.size_alloc,World.size_alloc,World.size_alloc] at this
 have b4:Boxed ((((((w2.alloc (.cells #[.string ⟨(leafI s).toArray⟩] 9)).alloc (.cells #[.string ⟨(leafI s).toArray⟩] 9)).alloc (.cells #[.slice (some ⟨w2.heap.size+1,0,none⟩) 1 1] 45)).alloc (.cells #[.int .i64 0] 3)).alloc (.cells #[.int .i64 n] 3)).alloc (.cells #[.int .i64 i] 3)) (w2.heap.size+1+1+1+1) 3 (.int .i64 n):=by
  have:=(Boxed.new ((((w2.alloc (.cells #[.string ⟨(leafI s).toArray⟩] 9)).alloc (.cells #[.string ⟨(leafI s).toArray⟩] 9)).alloc (.cells #[.slice (some ⟨w2.heap.size+1,0,none⟩) 1 1] 45)).alloc (.cells #[.int .i64 0] 3)) 3 (.int .i64 n)).alloc (.cells #[.int .i64 i] 3)
  rwa [World.size_alloc,World.size_alloc,World.size_alloc,World.size_alloc] at this
 have b5:Boxed ((((((w2.alloc (.cells #[.string ⟨(leafI s).toArray⟩] 9)).alloc (.cells #[.string ⟨(leafI s).toArray⟩] 9)).alloc (.cells #[.slice (some ⟨w2.heap.size+1,0,none⟩) 1 1] 45)).alloc (.cells #[.int .i64 0] 3)).alloc (.cells #[.int .i64 n] 3)).alloc (.cells #[.int .i64 i] 3)) (w2.heap.size+1+1+1+1+1) 3 (.int .i64 i):=by
  have:=Boxed.new (((((w2.alloc (.cells #[.string ⟨(leafI s).toArray⟩] 9)).alloc (.cells #[.string ⟨(leafI s).toArray⟩] 9)).alloc (.cells #[.slice (some ⟨w2.heap.size+1,0,none⟩) 1 1] 45)).alloc (.cells #[.int .i64 0] 3)).alloc (.cells #[.int .i64 n] 3)) 3 (.int .i64 i)
  rwa [World.size_alloc,World.size_alloc,World.size_alloc,World.size_alloc,World.size_alloc] at this
 have r1:((((((w2.alloc (.cells #[.string ⟨(leafI s).toArray⟩] 9)).alloc (.cells #[.string ⟨(leafI s).toArray⟩] 9)).alloc (.cells #[.slice (some ⟨w2.heap.size+1,0,none⟩) 1 1] 45)).alloc (.cells #[.int .i64 0] 3)).alloc (.cells #[.int .i64 n] 3)).alloc (.cells #[.int .i64 i] 3)).ownsRow (w2.heap.size+1) 9 1 (.slice (some ⟨w2.heap.size+1,0,none⟩) 1 1) 1 (strV [leafI s]):=by
  have h:((w2.alloc (.cells #[.string ⟨(leafI s).toArray⟩] 9)).alloc (.cells #[.string ⟨(leafI s).toArray⟩] 9)).ownsRow (w2.heap.size+1) 9 1 (.slice (some ⟨w2.heap.size+1,0,none⟩) 1 1) 1 (strV [leafI s]):=by
   have hh:=heap_alloc_new (w2.alloc (.cells #[.string ⟨(leafI s).toArray⟩] 9)) (.cells #[.string ⟨(leafI s).toArray⟩] 9);rw [World.size_alloc] at hh;exact ⟨rfl,.inr ⟨w2.heap.size+1,1,_,rfl,Nat.le_refl _,hh,by simp,by decide,rfl,rfl⟩⟩
  exact (((h.alloc _).alloc _).alloc _).alloc _
 have hB6:Below (w2.heap.size) w2 ((((((w2.alloc (.cells #[.string ⟨(leafI s).toArray⟩] 9)).alloc (.cells #[.string ⟨(leafI s).toArray⟩] 9)).alloc (.cells #[.slice (some ⟨w2.heap.size+1,0,none⟩) 1 1] 45)).alloc (.cells #[.int .i64 0] 3)).alloc (.cells #[.int .i64 n] 3)).alloc (.cells #[.int .i64 i] 3)):=((((((Below.refl _ w2).alloc (Nat.le_refl _) _).alloc (by simp) _).alloc (by simp;omega) _).alloc (by simp;omega) _).alloc (by simp;omega) _).alloc (by simp;omega) _;have hst:=sides_stops n i h4 (by omega) (w2.heap.size+1+1+1+1) (w2.heap.size+1+1+1+1+1) (3 - 1) _ b4.lt b5.lt b4.cell b5.cell;have hN:=sidesS_le n (n - 0) 0 n i (Nat.le_refl _) rfl
 refine wpIn_rangeFunc_ownH rfl (by omega) (gf:=139) (lb:=#[.pointer (some ⟨w2.heap.size+1+1+1+1,0,none⟩),.pointer (some ⟨w2.heap.size+1+1+1+1+1,0,none⟩)]) rfl trivial (enters_of Tryz.func139 (by kernel_rfl) rfl)
  hst (fun _ _=>trivial) (fun _ _ _ _ _ _ _ _=>trivial) (Below.refl _ _) (fun _=>rfl)
  (fun pre W=>Boxed W (w2.heap.size) 9 (.string ⟨((wayL sumL s p pre).getLastD []).toArray⟩)∧(∃ pv,Boxed W (w2.heap.size+1+1) 45 pv∧W.ownsRow (w2.heap.size+1) 9 1 pv (wayL sumL s p pre).length (strV (wayL sumL s p pre))∧True)∧Boxed W (w2.heap.size+1+1+1) 3 (.int .i64 (pre.length:Nat))∧Below (w2.heap.size) w2 W)
  (fun _ _ _=>False)
  (OwnFrom.and (Own.from (boxed_own (w2.heap.size) 9 (fun pre:List (Side n)=>.string ⟨((wayL sumL s p pre).getLastD []).toArray⟩)) _) (OwnFrom.and (Own.from (holdsRow_own (w2.heap.size+1) (w2.heap.size+1+1) 45 9 1 (fun pre:List (Side n)=>(wayL sumL s p pre).length) (fun pre=>strV (wayL sumL s p pre)) (fun _ _=>True)) _) (OwnFrom.and (Own.from (boxed_own (w2.heap.size+1+1+1) 3 (fun pre:List (Side n)=>.int .i64 (pre.length:Nat))) _) (ownFrom_below (Nat.le_refl _) (by simp;omega)))))
  (fun _ _ _ _ _ hs _ _=>hs)
  ⟨b0,⟨_,b2,r1,trivial⟩,b3,hB6⟩
  (fun x a' W=>∃ Bx,w2.heap.size+1+1+1 < Bx∧W.heap[Bx]?=some (.cells #[.int .i64 x.a,.int .i64 x.b,.bool x.r] 185 (0,0))∧a'={ tmps:=#[sumF,.int .i64 n,.int .i64 i,.string ⟨s.toArray⟩,.slice a p.length cap,.pointer (some ⟨w.heap.size,0,none⟩),undef,undef,undef,.pointer (some ⟨w.heap.size+1,0,none⟩),.slice none 0 0,.int .i64 0,.pointer (some ⟨w2.heap.size,0,none⟩),.pointer (some ⟨w2.heap.size+1+1,0,none⟩),.pointer (some ⟨w2.heap.size+1+1+1,0,none⟩),.pointer (some ⟨Bx,0,none⟩),.int .i64 n,.bool false,.bool false,.int .i64 n,.bool false,.bool false,.bool false,.int .i64 n,.int .i64 i,.bool true,.bool false,.bool false,.int .i64 n,.int .i64 i,.slice a p.length cap,.bool true,.bool false,.string ⟨s.toArray⟩,.string ⟨(leafI s).toArray⟩,.string ⟨(leafI s).toArray⟩,.slice (some ⟨w2.heap.size+1,0,none⟩) 1 1,.int .i64 n,.int .i64 i,sidesF (w2.heap.size+1+1+1+1) (w2.heap.size+1+1+1+1+1),.agg #[.int .i64 x.a,.int .i64 x.b,.bool x.r],undef,undef,undef,undef,undef,undef,undef,undef,undef,undef,undef,undef,undef,undef,undef,undef,undef,undef,undef,undef,undef,undef,undef,undef,undef,undef,undef,undef,undef,undef,undef,undef],defers:=[] })
  (fun x a' _ A B row hs hg hr=>by
   obtain ⟨Bx,h1,h2,h4⟩:=hs;exact ⟨Bx,h1,block_kept h2 hg (fun r e=>(hr r e).2),h4⟩)
  ?assign ?body ?done ?stop
 case assign =>
  rintro l pre x W K ⟨hIn,⟨pv,hpv,hrow,_⟩,hAt,hB⟩ hK;have hlt:=hAt.lt
  gi_wp2
  exact hK _ _ ((KeepsOthers.alloc _ _).from _) trivial ⟨hIn.alloc _,⟨pv,hpv.alloc _,hrow.alloc _,trivial⟩,hAt.alloc _,hB.alloc (by omega) _⟩ ⟨W.heap.size,hlt,World.alloc_heap_new W _,rfl⟩
 case body =>
  rintro l pre x a' W hl hrec ⟨hIn,⟨pv,hpv,hrow,_⟩,hAt,hB⟩ ⟨Bx,hBx,hblk,rfl⟩ hlt;have q2:=cell_of_block hblk 2;simp only [List.getElem?_toArray,List.getElem?_cons_zero,List.getElem?_cons_succ] at q2;have hsz:=hAt.lt;have hkp:pre.length < p.length:=by rw [HPL.out];exact hlt
  have hpn:p.length≤n:=by rw [HPL.out];omega
  have hBw:Below w.heap.size w W:=hBw2.trans (hB.mono (by omega));have hGW:G W:=hG.below hBw hG.size;have TW:=hT0.below hBw;obtain ⟨b,off,cap',hv,hblt,_,_,_,HC⟩:=TW.at (by omega);obtain ⟨rfl,rfl⟩:a=some ⟨b,off,none⟩∧cap=cap':=by simpa using hv
  have ck:W.cell? ⟨b,off+pre.length,none⟩=some (.string ⟨(p.getD pre.length []).toArray⟩):=by
   rw [HC.out pre.length hkp,List.getD_eq_getElem?_getD,List.getElem?_eq_getElem hkp];rfl
  have hq32:(p.getD pre.length []).length=32:=by
   rw [List.getD_eq_getElem?_getD,List.getElem?_eq_getElem hkp];exact HP32.out _ (List.getElem_mem hkp)
  have cS:=(hB.cell (p:=⟨w.heap.size,0,none⟩) (show w.heap.size < _ by omega)).trans d1;have cPa:=(hB.cell (p:=⟨w.heap.size+1,0,none⟩) (show w.heap.size+1 < _ by omega)).trans d2;have cI:=hIn.cell;have cA:=hAt.cell;have hwl:=wayL_len sumL s p pre;have hbd:=wayL_bound sumL sumL_len32 s p HP32.out pre;have HW:Hid (wayL sumL s p (pre++[x])=wayL sumL s p pre++[stepI sumL x (p.getD pre.length []) ((wayL sumL s p pre).getLastD [])]):=wayL_snoc sumL s p pre x;have hil:((wayL sumL s p pre).getLastD []).length≤s.length+65:=hbd _ (last_mem _ (by omega));obtain ⟨L,hL⟩:∃ L,wayL sumL s p pre=L:=⟨_,rfl⟩;rw [hL] at hrow hwl HW hil cI hIn;obtain ⟨inp,hinp⟩:∃ inp,L.getLastD []=inp:=⟨_,rfl⟩;rw [hinp] at HW hil cI hIn
  obtain ⟨q,hq⟩:∃ q,p.getD pre.length []=q:=⟨_,rfl⟩;rw [hq] at HW ck hq32;have hsm:=psumL_any inp (by omega) W.drew (hGW.below ((Below.refl _ W).drew) hGW.size);have hyl:=sumL_len32 inp;obtain ⟨y,hy⟩:∃ y,sumL inp=y:=⟨_,rfl⟩;rw [hy] at hsm hyl;have k0:(pre.length:Int) < (p.length:Int):=by omega
  have x1:IntKind.i64.wrap ((pre.length:Int)+1)=(pre.length:Int)+1:=by rw [IntKind.wrap_i64];omega
  have hLb:L.length≤4097:=by omega
  have HWL:Hid (L.length=pre.length+1):=hwl;clear hL hinp hq hbd TW HC hv hwl;rcases Bool.eq_false_or_eq_true x.r with hr | hr
  ·have hNx:Hid (stepI sumL x q inp=nodeI y q):=by show stepI sumL x q inp=_;unfold stepI;rw [if_pos hr,hy]
   have q2':W.cell? ⟨Bx,2,none⟩=some (.bool true):=by rw [q2,hr]
   have hNd:=fun w1=>pnodeIn_any y q (by omega) (by omega) w1
   obtain ⟨nx,hnx⟩:∃ nx,nodeI y q=nx:=⟨_,rfl⟩;rw [hnx] at hNd hNx;clear hnx hy q2 hr
   gi_wp2
   refine regionIn_any (by kernel_rfl) (fun ⟨_,_,h⟩=>h) (by kernel_rfl) ?_;refine any_of_C (C:=fun V=>V.cell? ⟨w.heap.size,0,none⟩=some sumF∧V.cell? ⟨w2.heap.size,0,none⟩=some (.string ⟨inp.toArray⟩)∧V.cell? ⟨w.heap.size+1,0,none⟩=some (.slice (some ⟨b,off,none⟩) p.length cap)∧V.cell? ⟨w2.heap.size+1+1+1,0,none⟩=some (.int .i64 (pre.length:Nat))∧V.cell? ⟨b,off+pre.length,none⟩=some (.string ⟨q.toArray⟩)) 8 _ _ _ _ ?_;refine takeC (i:=0) (v:=sumF) rfl (by kernel_rfl) (by kernel_rfl) (by kernel_rfl) (by kernel_rfl) (by kernel_rfl) (fun _ _ _ h=>h) (Or.inl ⟨by rfl,fun V hV=>by obtain ⟨r0,r1,r2,r3,r4⟩:=hV;go_simp⟩) ?_;refine takeC (i:=1) (v:=.string ⟨inp.toArray⟩) rfl (by kernel_rfl) (by kernel_rfl) (by kernel_rfl) (by kernel_rfl) (by kernel_rfl) (fun _ _ _ h=>h) (Or.inl ⟨by rfl,fun V hV=>by obtain ⟨r0,r1,r2,r3,r4⟩:=hV;go_simp⟩) ?_
   refine takeC (i:=3) (v:=.slice (some ⟨b,off,none⟩) p.length cap) rfl (by kernel_rfl) (by kernel_rfl) (by kernel_rfl) (by kernel_rfl) (by kernel_rfl) (fun _ _ _ h=>h) (Or.inl ⟨by rfl,fun V hV=>by obtain ⟨r0,r1,r2,r3,r4⟩:=hV;go_simp⟩) ?_;refine takeC (i:=4) (v:=.int .i64 (pre.length:Nat)) rfl (by kernel_rfl) (by kernel_rfl) (by kernel_rfl) (by kernel_rfl) (by kernel_rfl) (fun _ _ _ h=>h) (Or.inl ⟨by rfl,fun V hV=>by obtain ⟨r0,r1,r2,r3,r4⟩:=hV;go_simp⟩) ?_;refine takeC (i:=5) (v:=.pointer (some ⟨b,off+pre.length,none⟩)) rfl (by kernel_rfl) (by kernel_rfl) (by kernel_rfl) (by kernel_rfl) (by kernel_rfl) (fun _ _ _ h=>h) (Or.inl ⟨by rfl,fun V hV=>by go_simp⟩) ?_;refine takeC (i:=6) (v:=.string ⟨q.toArray⟩) rfl (by kernel_rfl) (by kernel_rfl) (by kernel_rfl) (by kernel_rfl) (by kernel_rfl) (fun _ _ _ h=>h) (Or.inl ⟨by rfl,fun V hV=>by obtain ⟨r0,r1,r2,r3,r4⟩:=hV;go_simp⟩) ?_
   refine consC (i:=2) (by kernel_rfl) (by kernel_rfl) ⟨cS,cI,cPa,cA,ck⟩ rfl (fun K hK=>?_);go_wp2_with fail
   refine hsm.mono ?_;rintro e W3 ⟨rfl,hb3'⟩;have hb3:Below W.heap.size W W3:=(Below.refl _ W).drew.trans hb3';have hs3:=hb3.size;have cS3:=(hb3.cell (p:=⟨w.heap.size,0,none⟩) (show w.heap.size < W.heap.size by omega)).trans cS;have cI3:=(hb3.cell (p:=⟨w2.heap.size,0,none⟩) (show w2.heap.size < W.heap.size by omega)).trans cI;have cPa3:=(hb3.cell (p:=⟨w.heap.size+1,0,none⟩) (show w.heap.size+1 < W.heap.size by omega)).trans cPa;have cA3:=(hb3.cell (p:=⟨w2.heap.size+1+1+1,0,none⟩) hAt.lt).trans cA;have ck3:=(hb3.cell (p:=⟨b,off+pre.length,none⟩) (show b < W.heap.size by omega)).trans ck;have hIn3:=boxed_below hIn hb3;have fI3:=hIn3.frozen;go_wp2_with fail
   refine consC (i:=7) (by kernel_rfl) (by kernel_rfl) ⟨cS3,cI3,cPa3,cA3,ck3⟩ rfl (fun K hK=>?_);go_wp2_with fail
   refine (hNd _).mono ?_;rintro e W3' ⟨rfl,rfl⟩;go_wp2_with fail
   refine lastC (by kernel_rfl) (by kernel_rfl) ⟨cS3,cI3,cPa3,cA3,ck3⟩ (of_decide_eq_true (by kernel_rfl)) ?_;refine any_seqI [8] [_] _ _ _ rfl (by kernel_rfl) ?_;have hpv3:=boxed_below hpv hb3;have hrow3:=owns_below hrow hb3;have hAt3:=boxed_below hAt hb3;have bI4:=hIn3.set (.string ⟨nx.toArray⟩);have bV4:=hpv3.other (B':=w2.heap.size) (by omega) (.string ⟨nx.toArray⟩);have bA4:=hAt3.other (B':=w2.heap.size) (by omega) (.string ⟨nx.toArray⟩)
   have hrow4:=hrow3.kept (grownBy_setCell' W3' (w2.heap.size) (.string ⟨nx.toArray⟩)) (by
    rcases hrow3.2 with ⟨rfl,_⟩ | ⟨g,gcap,cur,rfl,hbg,_⟩
    ·exact .inl rfl
    ·exact .inr (fun e=>by simp [Value.ownBlock] at e;omega))
   have hk4:KeepsOthers W (W3'.setCell ⟨w2.heap.size,0,none⟩ (.string ⟨nx.toArray⟩)):=(keeps_of_below hb3).trans (KeepsOthers.setCell _ _ _);have hB4:Below (w2.heap.size) w2 (W3'.setCell ⟨w2.heap.size,0,none⟩ (.string ⟨nx.toArray⟩)):=(hB.trans (hb3.mono (by omega))).setCell (p:=⟨w2.heap.size,0,none⟩) (Nat.le_refl _) _;have hs4:=(KeepsOthers.setCell W3' ⟨w2.heap.size,0,none⟩ (.string ⟨nx.toArray⟩)).size;obtain ⟨W4,hW4⟩:∃ W4,W3'.setCell ⟨w2.heap.size,0,none⟩ (.string ⟨nx.toArray⟩)=W4:=⟨_,rfl⟩;rw [hW4] at bI4 bV4 bA4 hrow4 hk4 hB4 hs4;go_wp2_with fail
   have c41:=bI4.cell;have c42:=bV4.cell;clear hb3' hb3 cS3 cI3 cPa3 cA3 ck3 hIn3 fI3 hpv3 hrow3 hAt3 hW4 cS cI cPa cA ck hsm hNd
   gi_wp2_with (gi_at_builtin;refine wpListIn_append_own _ rfl _ _ 45 rfl (w2.heap.size+1) 9 i0' (.string ByteArray.empty) 1 16 Tryz.underlying45 hi' hz0 hz1 hz2 rfl (by decide) _ _ _ rfl (hrow4.alloc _) ⟨W4.heap.size,0,none⟩ 1 1 [.string ⟨nx.toArray⟩] rfl rfl (cell_one_new _ _ _) (by simp [Value.oneCell']) (by unfold maxLen;omega) (by omega) (by simp;omega) ?_;intro v' w5 hown5 hgrow5 _;obtain ⟨g',cap',rfl⟩:=ownsRow_succ hown5;obtain ⟨hv1,hv2,hr2,hk2,hb2⟩:=bV4.appended (by decide) hrow4 (by omega) (by omega) hown5 hgrow5;have hc1:=hv1.cell;have hf1:=hv1.frozen;have bA5:=((bA4.alloc (.cells #[.string ⟨nx.toArray⟩] 9)).kept hgrow5 (bA4.not_row (by decide) hrow4)).other (B':=w2.heap.size+1+1) (by omega) (.slice (some ⟨g',0,none⟩) (L.length+1) cap');have bI5:=((bI4.alloc (.cells #[.string ⟨nx.toArray⟩] 9)).kept hgrow5 (fun e=>by have:=(hrow4.lt _ e.symm).1;omega)).other (B':=w2.heap.size+1+1) (by omega) (.slice (some ⟨g',0,none⟩) (L.length+1) cap');have cA5:=bA5.cell;have fA5:=bA5.frozen)
   refine ⟨(hk4.trans (hk2.trans (KeepsOthers.setCell _ _ _))).from _,trivial,?_,⟨_,hv2.other (by omega) _,?_,trivial⟩,?_,(hB4.trans (hb2.mono (by omega))).setCell (p:=⟨w2.heap.size+1+1+1,0,none⟩) (by show w2.heap.size≤w2.heap.size+1+1+1;omega) _⟩
   ·rw [HW.out,List.getLastD_concat,hNx.out]
    exact bI5.other (by omega) _
   ·rw [HW.out,hNx.out,strV_snoc,List.length_append]
    exact hr2.kept (grownBy_setCell' _ _ _) (.inr (bA5.not_row (by decide) hr2).symm)
   ·rw [List.length_append]
    exact bA5.set _
  ·have hNx:Hid (stepI sumL x q inp=nodeI q y):=by show stepI sumL x q inp=_;unfold stepI;rw [if_neg (by rw [hr];decide),hy]
   have q2':W.cell? ⟨Bx,2,none⟩=some (.bool false):=by rw [q2,hr]
   have hNd:=fun w1=>pnodeIn_any q y (by omega) (by omega) w1
   obtain ⟨nx,hnx⟩:∃ nx,nodeI q y=nx:=⟨_,rfl⟩;rw [hnx] at hNd hNx;clear hnx hy q2 hr
   gi_wp2
   refine regionIn_any (by kernel_rfl) (fun ⟨_,_,h⟩=>h) (by kernel_rfl) ?_;refine any_of_C (C:=fun V=>V.cell? ⟨w.heap.size,0,none⟩=some sumF∧V.cell? ⟨w2.heap.size,0,none⟩=some (.string ⟨inp.toArray⟩)∧V.cell? ⟨w.heap.size+1,0,none⟩=some (.slice (some ⟨b,off,none⟩) p.length cap)∧V.cell? ⟨w2.heap.size+1+1+1,0,none⟩=some (.int .i64 (pre.length:Nat))∧V.cell? ⟨b,off+pre.length,none⟩=some (.string ⟨q.toArray⟩)) 8 _ _ _ _ ?_;refine takeC (i:=0) (v:=.slice (some ⟨b,off,none⟩) p.length cap) rfl (by kernel_rfl) (by kernel_rfl) (by kernel_rfl) (by kernel_rfl) (by kernel_rfl) (fun _ _ _ h=>h) (Or.inl ⟨by rfl,fun V hV=>by obtain ⟨r0,r1,r2,r3,r4⟩:=hV;go_simp⟩) ?_;refine takeC (i:=1) (v:=.int .i64 (pre.length:Nat)) rfl (by kernel_rfl) (by kernel_rfl) (by kernel_rfl) (by kernel_rfl) (by kernel_rfl) (fun _ _ _ h=>h) (Or.inl ⟨by rfl,fun V hV=>by obtain ⟨r0,r1,r2,r3,r4⟩:=hV;go_simp⟩) ?_
   refine takeC (i:=2) (v:=.pointer (some ⟨b,off+pre.length,none⟩)) rfl (by kernel_rfl) (by kernel_rfl) (by kernel_rfl) (by kernel_rfl) (by kernel_rfl) (fun _ _ _ h=>h) (Or.inl ⟨by rfl,fun V hV=>by go_simp⟩) ?_;refine takeC (i:=3) (v:=.string ⟨q.toArray⟩) rfl (by kernel_rfl) (by kernel_rfl) (by kernel_rfl) (by kernel_rfl) (by kernel_rfl) (fun _ _ _ h=>h) (Or.inl ⟨by rfl,fun V hV=>by obtain ⟨r0,r1,r2,r3,r4⟩:=hV;go_simp⟩) ?_;refine takeC (i:=4) (v:=sumF) rfl (by kernel_rfl) (by kernel_rfl) (by kernel_rfl) (by kernel_rfl) (by kernel_rfl) (fun _ _ _ h=>h) (Or.inl ⟨by rfl,fun V hV=>by obtain ⟨r0,r1,r2,r3,r4⟩:=hV;go_simp⟩) ?_;refine takeC (i:=5) (v:=.string ⟨inp.toArray⟩) rfl (by kernel_rfl) (by kernel_rfl) (by kernel_rfl) (by kernel_rfl) (by kernel_rfl) (fun _ _ _ h=>h) (Or.inl ⟨by rfl,fun V hV=>by obtain ⟨r0,r1,r2,r3,r4⟩:=hV;go_simp⟩) ?_
   refine consC (i:=6) (by kernel_rfl) (by kernel_rfl) ⟨cS,cI,cPa,cA,ck⟩ rfl (fun K hK=>?_);go_wp2_with fail
   refine hsm.mono ?_;rintro e W3 ⟨rfl,hb3'⟩;have hb3:Below W.heap.size W W3:=(Below.refl _ W).drew.trans hb3';have hs3:=hb3.size;have cS3:=(hb3.cell (p:=⟨w.heap.size,0,none⟩) (show w.heap.size < W.heap.size by omega)).trans cS;have cI3:=(hb3.cell (p:=⟨w2.heap.size,0,none⟩) (show w2.heap.size < W.heap.size by omega)).trans cI;have cPa3:=(hb3.cell (p:=⟨w.heap.size+1,0,none⟩) (show w.heap.size+1 < W.heap.size by omega)).trans cPa;have cA3:=(hb3.cell (p:=⟨w2.heap.size+1+1+1,0,none⟩) hAt.lt).trans cA;have ck3:=(hb3.cell (p:=⟨b,off+pre.length,none⟩) (show b < W.heap.size by omega)).trans ck;have hIn3:=boxed_below hIn hb3;have fI3:=hIn3.frozen;go_wp2_with fail
   refine consC (i:=7) (by kernel_rfl) (by kernel_rfl) ⟨cS3,cI3,cPa3,cA3,ck3⟩ rfl (fun K hK=>?_);go_wp2_with fail
   refine (hNd _).mono ?_;rintro e W3' ⟨rfl,rfl⟩;go_wp2_with fail
   refine lastC (by kernel_rfl) (by kernel_rfl) ⟨cS3,cI3,cPa3,cA3,ck3⟩ (of_decide_eq_true (by kernel_rfl)) ?_;refine any_seqI [8] [_] _ _ _ rfl (by kernel_rfl) ?_;have hpv3:=boxed_below hpv hb3;have hrow3:=owns_below hrow hb3;have hAt3:=boxed_below hAt hb3;have bI4:=hIn3.set (.string ⟨nx.toArray⟩);have bV4:=hpv3.other (B':=w2.heap.size) (by omega) (.string ⟨nx.toArray⟩);have bA4:=hAt3.other (B':=w2.heap.size) (by omega) (.string ⟨nx.toArray⟩)
   have hrow4:=hrow3.kept (grownBy_setCell' W3' (w2.heap.size) (.string ⟨nx.toArray⟩)) (by
    rcases hrow3.2 with ⟨rfl,_⟩ | ⟨g,gcap,cur,rfl,hbg,_⟩
    ·exact .inl rfl
    ·exact .inr (fun e=>by simp [Value.ownBlock] at e;omega))
   have hk4:KeepsOthers W (W3'.setCell ⟨w2.heap.size,0,none⟩ (.string ⟨nx.toArray⟩)):=(keeps_of_below hb3).trans (KeepsOthers.setCell _ _ _);have hB4:Below (w2.heap.size) w2 (W3'.setCell ⟨w2.heap.size,0,none⟩ (.string ⟨nx.toArray⟩)):=(hB.trans (hb3.mono (by omega))).setCell (p:=⟨w2.heap.size,0,none⟩) (Nat.le_refl _) _;have hs4:=(KeepsOthers.setCell W3' ⟨w2.heap.size,0,none⟩ (.string ⟨nx.toArray⟩)).size;obtain ⟨W4,hW4⟩:∃ W4,W3'.setCell ⟨w2.heap.size,0,none⟩ (.string ⟨nx.toArray⟩)=W4:=⟨_,rfl⟩;rw [hW4] at bI4 bV4 bA4 hrow4 hk4 hB4 hs4;go_wp2_with fail
   have c41:=bI4.cell;have c42:=bV4.cell;clear hb3' hb3 cS3 cI3 cPa3 cA3 ck3 hIn3 fI3 hpv3 hrow3 hAt3 hW4 cS cI cPa cA ck hsm hNd
   gi_wp2_with (gi_at_builtin;refine wpListIn_append_own _ rfl _ _ 45 rfl (w2.heap.size+1) 9 i0' (.string ByteArray.empty) 1 16 Tryz.underlying45 hi' hz0 hz1 hz2 rfl (by decide) _ _ _ rfl (hrow4.alloc _) ⟨W4.heap.size,0,none⟩ 1 1 [.string ⟨nx.toArray⟩] rfl rfl (cell_one_new _ _ _) (by simp [Value.oneCell']) (by unfold maxLen;omega) (by omega) (by simp;omega) ?_;intro v' w5 hown5 hgrow5 _;obtain ⟨g',cap',rfl⟩:=ownsRow_succ hown5;obtain ⟨hv1,hv2,hr2,hk2,hb2⟩:=bV4.appended (by decide) hrow4 (by omega) (by omega) hown5 hgrow5;have hc1:=hv1.cell;have hf1:=hv1.frozen;have bA5:=((bA4.alloc (.cells #[.string ⟨nx.toArray⟩] 9)).kept hgrow5 (bA4.not_row (by decide) hrow4)).other (B':=w2.heap.size+1+1) (by omega) (.slice (some ⟨g',0,none⟩) (L.length+1) cap');have bI5:=((bI4.alloc (.cells #[.string ⟨nx.toArray⟩] 9)).kept hgrow5 (fun e=>by have:=(hrow4.lt _ e.symm).1;omega)).other (B':=w2.heap.size+1+1) (by omega) (.slice (some ⟨g',0,none⟩) (L.length+1) cap');have cA5:=bA5.cell;have fA5:=bA5.frozen)
   refine ⟨(hk4.trans (hk2.trans (KeepsOthers.setCell _ _ _))).from _,trivial,?_,⟨_,hv2.other (by omega) _,?_,trivial⟩,?_,(hB4.trans (hb2.mono (by omega))).setCell (p:=⟨w2.heap.size+1+1+1,0,none⟩) (by show w2.heap.size≤w2.heap.size+1+1+1;omega) _⟩
   ·rw [HW.out,List.getLastD_concat,hNx.out]
    exact bI5.other (by omega) _
   ·rw [HW.out,hNx.out,strV_snoc,List.length_append]
    exact hr2.kept (grownBy_setCell' _ _ _) (.inr (bA5.not_row (by decide) hr2).symm)
   ·rw [List.length_append]
    exact bA5.set _
 case done =>
  rintro D ys W hD rfl ⟨hIn,⟨pv,hpv,hrow,_⟩,hAt,hB⟩ hDf;have hsz:=hAt.lt;have hBw:Below w.heap.size w W:=hBw2.trans (hB.mono (by omega));have hGW:G W:=hG.below hBw hG.size;have cS:=(hB.cell (p:=⟨w.heap.size,0,none⟩) (show w.heap.size < _ by omega)).trans d1;have cI:=hIn.cell;have cV:=hpv.cell;have hwl:=wayL_len sumL s p (sidesS n 0 n i (Nat.le_refl _));have hbd:=wayL_bound sumL sumL_len32 s p HP32.out (sidesS n 0 n i (Nat.le_refl _));have hil:=hbd _ (last_mem _ (by omega));have HC:=climbL_fits sumL n i h1n h4 hi s p HPL.out HP32.out;obtain ⟨L,hL⟩:∃ L,wayL sumL s p (sidesS n 0 n i (Nat.le_refl _))=L:=⟨_,rfl⟩;rw [hL] at hrow hwl hil cI hIn HC;obtain ⟨inp,hinp⟩:∃ inp,L.getLastD []=inp:=⟨_,rfl⟩;rw [hinp] at hil cI hIn HC
  have hsm:=psumL_any inp (by omega) W.drew (hGW.below ((Below.refl _ W).drew) hGW.size);have hyl:=sumL_len32 inp;obtain ⟨y,hy⟩:∃ y,sumL inp=y:=⟨_,rfl⟩;rw [hy] at hsm hyl HC;have hrt:=fun w1=>prootIn_any n (by omega) y (by omega) w1
  obtain ⟨rt,hrt'⟩:∃ rt,rootI n y=rt:=⟨_,rfl⟩;rw [hrt'] at hrt HC;have HC':Hid (climbL sumL n i s p=(L++[rt],0)):=HC;have hLb:L.length≤4097:=by omega
  clear HC hrt' hy hinp hL hwl hbd
  gi_wp2
  refine regionW_calm (by kernel_rfl) (by kernel_rfl) ?_;refine any_of_C (C:=fun V=>V.cell? ⟨w2.heap.size+1+1,0,none⟩=some pv∧V.cell? ⟨w.heap.size,0,none⟩=some sumF∧V.cell? ⟨w2.heap.size,0,none⟩=some (.string ⟨inp.toArray⟩)) 8 _ _ _ _ ?_;refine takeC (i:=0) (v:=pv) rfl (by kernel_rfl) (by kernel_rfl) (by kernel_rfl) (by kernel_rfl) (by kernel_rfl) (fun _ _ _ h=>h) (Or.inl ⟨by rfl,fun V hV=>by obtain ⟨r0,r1,r2⟩:=hV;go_simp⟩) ?_;refine takeC (i:=1) (v:=.int .i64 n) rfl (by kernel_rfl) (by kernel_rfl) (by kernel_rfl) (by kernel_rfl) (by kernel_rfl) (fun _ _ _ h=>h) (Or.inl ⟨by rfl,fun V hV=>by obtain ⟨r0,r1,r2⟩:=hV;go_simp⟩) ?_;refine takeC (i:=2) (v:=sumF) rfl (by kernel_rfl) (by kernel_rfl) (by kernel_rfl) (by kernel_rfl) (by kernel_rfl) (fun _ _ _ h=>h) (Or.inl ⟨by rfl,fun V hV=>by obtain ⟨r0,r1,r2⟩:=hV;go_simp⟩) ?_
  refine takeC (i:=3) (v:=.string ⟨inp.toArray⟩) rfl (by kernel_rfl) (by kernel_rfl) (by kernel_rfl) (by kernel_rfl) (by kernel_rfl) (fun _ _ _ h=>h) (Or.inl ⟨by rfl,fun V hV=>by obtain ⟨r0,r1,r2⟩:=hV;go_simp⟩) ?_;refine consC (i:=4) (by kernel_rfl) (by kernel_rfl) ⟨cV,cS,cI⟩ rfl (fun K hK=>?_);go_wp2_with fail
  refine hsm.mono ?_;rintro e W3 ⟨rfl,hb3'⟩;have hb3:Below W.heap.size W W3:=(Below.refl _ W).drew.trans hb3';have hs3:=hb3.size;have cV3:=(hb3.cell (p:=⟨w2.heap.size+1+1,0,none⟩) hpv.lt).trans cV;have cS3:=(hb3.cell (p:=⟨w.heap.size,0,none⟩) (show w.heap.size < W.heap.size by omega)).trans cS;have cI3:=(hb3.cell (p:=⟨w2.heap.size,0,none⟩) hIn.lt).trans cI;go_wp2_with fail
  refine consC (i:=5) (by kernel_rfl) (by kernel_rfl) ⟨cV3,cS3,cI3⟩ rfl (fun K hK=>?_);go_wp2_with fail
  refine (hrt _).mono ?_;rintro e W4 ⟨rfl,hb4⟩;have hs4:=hb4.size;have hbW4:Below W.heap.size W W4:=hb3.trans (hb4.mono (by omega));have cV4:=(hb4.cell (p:=⟨w2.heap.size+1+1,0,none⟩) (show w2.heap.size+1+1 < W3.heap.size by have:=hpv.lt;omega)).trans cV3;have cS4:=(hb4.cell (p:=⟨w.heap.size,0,none⟩) (show w.heap.size < W3.heap.size by omega)).trans cS3;have cI4:=(hb4.cell (p:=⟨w2.heap.size,0,none⟩) (show w2.heap.size < W3.heap.size by omega)).trans cI3;have hrow4:=owns_below hrow hbW4;go_wp2_with fail
  refine consC (i:=6) (by kernel_rfl) (by kernel_rfl) ⟨cV4,cS4,cI4⟩ rfl (fun K hK=>?_);go_wp2_with fail
  refine consC (i:=7) (by kernel_rfl) (by kernel_rfl) ⟨cell_al _ cV4,cell_al _ cS4,cell_al _ cI4⟩ rfl (fun K hK=>?_);refine wpList_append_own _ rfl _ _ 45 rfl (w2.heap.size+1) 9 i0' (.string ByteArray.empty) 1 16 Tryz.underlying45 hi' hz0 hz1 hz2 rfl (by decide) _ _ _ rfl (hrow4.alloc _) ⟨W4.heap.size,0,none⟩ 1 1 [.string ⟨rt.toArray⟩] rfl rfl ?d1 ?d2 ?d3 ?d4 ?d5 ?_
  case d1 =>
   intro j u hj
   match j,hj with
   | 0,hj=>simp at hj;subst hj;simp [Addr.add]
  case d2=>intro u hu;simp at hu;subst hu;rfl
  case d3=>unfold maxLen;omega
  case d4=>omega
  case d5=>simp;omega
  intro v' W5 hown5 hgrow5' _;have hgrow5:(W4.alloc (.cells #[.string ⟨rt.toArray⟩] 9)).grownBy W5 pv.ownBlock:=hgrow5';clear hgrow5';have hB4:Below (w2.heap.size) w2 W4:=hB.trans (hbW4.mono (by omega));have hpv4:=boxed_below hpv hbW4;have hpv5:Boxed W5 (w2.heap.size+1+1) 45 pv:=(hpv4.alloc (.cells #[.string ⟨rt.toArray⟩] 9)).kept hgrow5 (hpv4.not_row (by decide) hrow4);have e1:=hpv5.cell;have hB5:Below (w2.heap.size) w2 W5:=(hB4.alloc (by omega) _).grown hgrow5 (by simp;omega) (fun j hj=>by have:=(hrow4.lt j hj).1;omega);have e2:=(hB5.cell (p:=⟨w.heap.size,0,none⟩) (show w.heap.size < _ by omega)).trans d1;have hIn4:=boxed_below hIn hbW4;have hIn5:Boxed W5 (w2.heap.size) 9 (.string ⟨inp.toArray⟩):=(hIn4.alloc (.cells #[.string ⟨rt.toArray⟩] 9)).kept hgrow5 (fun e=>by have:=(hrow4.lt _ e.symm).1;omega)
  have e3:=hIn5.cell
  have hDf5:W5.heap[D]?=some (.deferred (some [])):=by
   have hD4:=(keeps_of_below hbW4).same D _ hDf rfl
   exact (KeepsOthers.of_grownBy hgrow5 (fun j o ej hj=>by
    rcases hrow4.2 with ⟨rfl,_⟩ | ⟨g,gcap,cur,rfl,_,hgb,_⟩
    ·simp [Value.ownBlock] at ej
    ·obtain rfl:g=j:=by simpa [Value.ownBlock] using ej
     have hl:g < W4.heap.size:=(Array.getElem?_eq_some_iff.1 hgb).1;rw [Below.heap_alloc W4 _ g hl,hgb] at hj;cases hj;rfl)).same D _ ((KeepsOthers.alloc W4 _).same D _ hD4 rfl) rfl
  go_wp2_with fail
  refine lastC (by kernel_rfl) (by kernel_rfl) ⟨e1,e2,e3⟩ (of_decide_eq_true (by kernel_rfl)) ?_;refine any_seqI [8,9] [_,_] _ _ _ rfl (by kernel_rfl) ?_;go_wp2_with fail
  refine calm_normal ?_
  gi_wp2
  refine ⟨by simp,.inl ⟨_,_,rfl,run_takeDeferred hDf5,?_⟩⟩;refine ⟨_,results_tmp2 rfl _ _ _,?_⟩;rw [HC'.out];refine ⟨v',rfl,(hBw2.trans (hB5.mono (by omega))).trans (belowK_b (w:=w) (Nat.le_refl _) W5 D _ _ (by simp at hD;omega) hDf5 rfl rfl),?_⟩;rw [strV_snoc,List.length_append];exact ownsRow_putObj (owns_low (B':=w.heap.size) hown5 (by omega)) _ hDf5 rfl
 case stop =>
  rintro D c pre W _ _ h _;exact h.elim
end Go.Proofs.YthamoeekiglphaaGreatDoor
