/-
  What cartoucheref09.All and Outer answer. What edges.Nodes answers. What history.Writer, written and Last answer. All that are wrong, counted up to a place: in
-/
import Derived.Test.YtdlcimfifkhllaaGreatCR9At
import Derived.Test.YtdlcimfifkhllaaGreatCP8Lives
import Derived.Test.YtdlcimfifkhllaaGreatCP8First
import Derived.Test.YtdlcimfifkhllaaGreatCL0f
import Derived.Sort.OwnSortedInts
import Derived.Sort.OwnSorted
namespace Go.Proofs.YtdlcimfifkhllaaGreat
set_option maxRecDepth 100000
open Go.RowKit
set_option linter.unusedVariables false
attribute [local go_sem] ba_size
def badAt (h:List Ev) (i:Nat):Option Bd:=if (atL h i).1=0 then none else some (atL h i)
theorem bads_next (h:List Ev) (k:Nat):(List.range (k+1)).filterMap (badAt h)=(List.range k).filterMap (badAt h)++(badAt h k).toList:=by
 rw [List.range_succ,List.filterMap_append]
 cases hl:badAt h k with
 | none=>simp [hl]
 | some x=>simp [hl]
theorem atI_nat (h:List Ev) (k:Nat):atI h (k:Int)=atL h k:=by unfold atI;rw [if_pos (by omega),Int.toNat_natCast]
set_option maxHeartbeats 2000000 in
theorem rbads_big (h:List Ev) (v:Value) (w:World) (hT:IsEvs w v h) (hle:h.length≤2932031007402) :
 Calls Tryz.prog 25 #[v] w fun e w'=>BdRow 25 w (badsL h) e w':=by
 obtain ⟨i0,hi,hz0,hz1,hz2⟩:=info_parts bad_info
 have C1:=fun (i:Int) W hW=>rat_any h v W (hT.below (w':=W) hW) i
 obtain ⟨a,cap,rfl,h1,h2,h3,HC⟩:=hT.reads
 obtain ⟨n,hn⟩:∃ n,h.length=n:=⟨_,rfl⟩
 have HN:Hid (h.length=n):=hn
 simp only [hn] at C1
 rw [hn] at h1 h3 hle ⊢
 clear hT hn
 go_enter Tryz.func25,Tryz.ntmps25
 go_wp2_with fail
 go_loopw [3,4] (fun r i wr=>∃ (k c:Nat),k≤n∧c≤k∧i=.int .i64 k∧Hid (((List.range k).filterMap (badAt h)).length=c)∧Below w.heap.size w wr∧wr.ownsRow w.heap.size 25 3 r c (recV badV ((List.range k).filterMap (badAt h)))) (fun _ i _=>n - (intOf i).toNat)
 case atStart=>exact ⟨0,0,Nat.zero_le _,Nat.zero_le _,rfl,rfl,Below.refl _ _,World.ownsRow_nil _ _ _ _⟩
 case round =>
  obtain ⟨k,c,hk,hc,rfl,HL,hbw,hrow⟩:=hrel
  by_cases hlt:k < n
  ·have D1:=C1 (k:Int)
   rw [atI_nat] at D1
   obtain ⟨⟨y0,y1,y2⟩,hy⟩:∃ y,atL h k=y:=⟨_,rfl⟩
   rw [hy] at D1
   by_cases d:y0=0
   ·have HA:Hid (badAt h k=none):=by show _=_;unfold badAt;rw [hy,if_pos d]
    have HV:Hid (recV badV ((List.range (k+1)).filterMap (badAt h))=recV badV ((List.range k).filterMap (badAt h))):=by show _=_;rw [bads_next,HA.out,Option.toList_none,List.append_nil]
    have HL':Hid (((List.range (k+1)).filterMap (badAt h)).length=c):=by show _=_;rw [bads_next,HA.out,Option.toList_none,List.append_nil,HL.out]
    have e1:(y0 != 0)=false:=by rw [d];rfl
    clear d hy
    go_wp2_with fail
    refine (D1 _ hbw).mono ?_
    rintro e w1 ⟨rfl,b1⟩
    have B1:=bel_trans hbw b1
    have O1:=(owns_below hrow b1).alloc (.cells #[.int .i64 y0,.int .i64 y1,.int .i64 y2] 25)
    have B1':=B1.alloc B1.size (.cells #[.int .i64 y0,.int .i64 y1,.int .i64 y2] 25)
    go_wp2_with fail
    refine ⟨?relA,?meaA⟩
    case relA=>exact ⟨k+1,c,by omega,by omega,by first | go_num | simp,HL',B1',by rw [HV.out];exact O1⟩
    case meaA=>simp [intOf];omega
   ·have HA:Hid (badAt h k=some (y0,y1,y2)):=by show _=_;unfold badAt;rw [hy,if_neg d]
    have HV:Hid (recV badV ((List.range (k+1)).filterMap (badAt h))=recV badV ((List.range k).filterMap (badAt h))++[.int .i64 y0,.int .i64 y1,.int .i64 y2]):=by show _=_;rw [bads_next,HA.out,recV_append];rfl
    have HL':Hid (((List.range (k+1)).filterMap (badAt h)).length=c+1):=by show _=_;rw [bads_next,HA.out,List.length_append,HL.out];rfl
    have e1:(y0 != 0)=true:=bne_iff_ne.2 d
    obtain ⟨DR,hDR⟩:∃ d,recV badV ((List.range k).filterMap (badAt h))=d:=⟨_,rfl⟩
    rw [hDR] at hrow HV
    clear hDR hy
    go_wp2_with fail
    refine (D1 _ hbw).mono ?_
    rintro e w1 ⟨rfl,b1⟩
    have B1:=bel_trans hbw b1
    have O1:=(owns_below hrow b1).alloc (.cells #[.int .i64 y0,.int .i64 y1,.int .i64 y2] 25)
    have B1':=B1.alloc B1.size (.cells #[.int .i64 y0,.int .i64 y1,.int .i64 y2] 25)
    have sz:=B1.size
    go_wp2_with (at_builtin;refine wpList_append_own _ rfl _ _ 53 rfl w.heap.size 25 i0 (.agg #[.int .i64 0,.int .i64 0,.int .i64 0]) 3 24 Tryz.underlying53 hi hz0 hz1 hz2 rfl (by decide) _ _ _ rfl (O1.alloc _) ⟨w1.heap.size+1,0,none⟩ 1 1 [.int .i64 y0,.int .i64 y1,.int .i64 y2] rfl rfl ?d1 ?d2 ?d3 ?d4 ?d5 ?_)
    try
     case d1 =>
      intro j u hj
      match j,hj with
      | 0,hj=>simp at hj;subst hj;first | (simp [Addr.add];done) | exact cell_new7 (by simp) rfl
      | 1,hj=>simp at hj;subst hj;first | (simp [Addr.add];done) | exact cell_new7 (by simp) rfl
      | 2,hj=>simp at hj;subst hj;first | (simp [Addr.add];done) | exact cell_new7 (by simp) rfl
    try
     case d2=>first | exact badV_one (y0,y1,y2) | exact ⟨rfl,rfl,rfl⟩
    try
     case d3=>unfold maxLen;omega
    try
     case d4=>omega
    try
     case d5=>first | (simp;done) | (simp;omega)
    intro v' w3 own3 g3 _
    have B3:Below w.heap.size w w3:=(B1'.alloc B1'.size _).grown g3 (by have:=B1'.size;simp at this ⊢;omega) (fun j hj=>(hrow.lt j hj).1)
    go_wp2_with fail
    refine ⟨?relB,?meaB⟩
    case relB=>exact ⟨k+1,c+1,by omega,by omega,by first | go_num | simp,HL',B3,by rw [HV.out];exact own3⟩
    case meaB=>simp [intOf];omega
  ·obtain rfl:k=n:=by omega
   have HE:Hid (badsL h=(List.range k).filterMap (badAt h)):=by show badsL h=_;unfold badsL;rw [HN.out];rfl
   go_wp2_with fail
   go_ret
   refine ⟨_,rfl,hbw,?_⟩
   rw [HE.out,HL.out]
   exact hrow
theorem rbads_any (h:List Ev) (v:Value) (w:World) (hT:IsEvs w v h) (hle:h.length≤300) :
 Calls Tryz.prog 25 #[v] w fun e w'=>BdRow 25 w (badsL h) e w':=rbads_big h v w hT (by omega)
set_option maxHeartbeats 2000000 in
theorem router_any (h:List Ev) (v:Value) (w:World) (hT:IsEvs w v h) (i:Int) :
 Calls Tryz.prog 68 #[v,.int .i64 i] w fun e w'=>e=.returned (.bool (outerI h i))∧Below w.heap.size w w':=by
 have CC:=fun W hW=>rcounts_any h v W (hT.below (w':=W) hW) i
 have C2:=fun (t:Int) (k:List UInt8) (b:Int) W hW=>rlast_any h v W (hT.below (w':=W) hW) t k b
 obtain ⟨a,cap,rfl,h1,h2,h3,HC⟩:=hT.reads
 obtain ⟨n,hn⟩:∃ n,h.length=n:=⟨_,rfl⟩
 have HN:Hid (h.length=n):=hn
 simp only [hn] at CC C2
 rw [hn] at h1 h3 ⊢
 clear hT hn
 by_cases hc:countI h i=true
 ·rw [hc] at CC
  have hi0:0≤i∧countsB h i.toNat=true:=by
   unfold countI at hc
   rw [Bool.and_eq_true,decide_eq_true_eq] at hc
   exact hc
  obtain ⟨q,rfl⟩:∃ q:Nat,i=(q:Int):=⟨i.toNat,by omega⟩
  have hcq:countsB h q=true:=by have:=hi0.2;rwa [Int.toNat_natCast] at this
  have hA:outerI h (q:Int)=decide (lastN h (ev h q).2.1 (ev h q).2.2.1 q=none):=by unfold outerI outerB;rw [Int.toNat_natCast,hcq,decide_eq_true (by omega)];simp
  rw [hA]
  have hcl:=(counts_iff h q).1 hcq
  have HQ1:Hid (q < h.length):=hcl.1
  have hqn:q < n:=by have:=HN.out;have:=HQ1.out;omega
  obtain ⟨bb,off,rfl,HQ⟩:=HC.out (by have:=HQ1.out;omega)
  obtain ⟨⟨x0,x1,x2,x3⟩,hx⟩:∃ x,ev h q=x:=⟨_,rfl⟩
  have HX:Hid (ev h q=(x0,x1,x2,x3)):=hx
  simp only [hx]
  have D1:=C2 x1 x2 (q:Int)
  rw [last_upto h x1 x2 q (by have:=HQ1.out;omega)] at D1
  clear hx hcl hcq hi0 hc hA
  rcases hl:lastN h x1 x2 q with _ | k
  ·rw [hl] at D1
   simp only [oI] at D1
   rw [decide_eq_true (by rfl)]
   clear hl
   go_enter Tryz.func68,Tryz.ntmps68
   go_wp2_with fail
   refine (CC _ (Below.refl _ _)).mono ?_
   rintro e w1 ⟨rfl,b1⟩
   obtain ⟨s0,s1,s2,s3⟩:=HQ.out q HQ1.out _ b1
   rw [HX.out] at s0 s1 s2 s3
   simp only at s0 s1 s2 s3
   have S0:(fun V=>Below w1.heap.size w1 V∧V.cell? ⟨bb,off+q*4+1,none⟩=some (.int .i64 x1)∧V.cell? ⟨bb,off+q*4+2,none⟩=some (.string ⟨x2.toArray⟩)) (w1).drew:=⟨(Below.refl _ _).drew,s1,s2⟩
   have keepS:∀ V V':World,(fun V=>Below w1.heap.size w1 V∧V.cell? ⟨bb,off+q*4+1,none⟩=some (.int .i64 x1)∧V.cell? ⟨bb,off+q*4+2,none⟩=some (.string ⟨x2.toArray⟩)) V→Below V.heap.size V V'→(fun V=>Below w1.heap.size w1 V∧V.cell? ⟨bb,off+q*4+1,none⟩=some (.int .i64 x1)∧V.cell? ⟨bb,off+q*4+2,none⟩=some (.string ⟨x2.toArray⟩)) V':=fun V V' ⟨a,b,c⟩ d=>⟨bel_trans a d,cell_bel d b,cell_bel d c⟩
   go_wp2_with fail
   go_region_held3 (fun V=>Below w1.heap.size w1 V∧V.cell? ⟨bb,off+q*4+1,none⟩=some (.int .i64 x1)∧V.cell? ⟨bb,off+q*4+2,none⟩=some (.string ⟨x2.toArray⟩)) (first | exact S0 | exact keepS _ _ (by assumption) (by assumption)) (first | (go_at_call 54;refine (D1 _ (bel_trans b1 (And.left (by assumption)))).mono ?_;rintro e' w' ⟨rfl,b8⟩))
   go_wp2_with fail
   go_ret
   exact ⟨rfl,bel_trans b1 (And.left (by assumption))⟩
  ·rw [hl] at D1
   simp only [oI] at D1
   have jk:¬ (k:Int) < 0:=by omega
   rw [decide_eq_false (by simp)]
   clear hl
   go_enter Tryz.func68,Tryz.ntmps68
   go_wp2_with fail
   refine (CC _ (Below.refl _ _)).mono ?_
   rintro e w1 ⟨rfl,b1⟩
   obtain ⟨s0,s1,s2,s3⟩:=HQ.out q HQ1.out _ b1
   rw [HX.out] at s0 s1 s2 s3
   simp only at s0 s1 s2 s3
   have S0:(fun V=>Below w1.heap.size w1 V∧V.cell? ⟨bb,off+q*4+1,none⟩=some (.int .i64 x1)∧V.cell? ⟨bb,off+q*4+2,none⟩=some (.string ⟨x2.toArray⟩)) (w1).drew:=⟨(Below.refl _ _).drew,s1,s2⟩
   have keepS:∀ V V':World,(fun V=>Below w1.heap.size w1 V∧V.cell? ⟨bb,off+q*4+1,none⟩=some (.int .i64 x1)∧V.cell? ⟨bb,off+q*4+2,none⟩=some (.string ⟨x2.toArray⟩)) V→Below V.heap.size V V'→(fun V=>Below w1.heap.size w1 V∧V.cell? ⟨bb,off+q*4+1,none⟩=some (.int .i64 x1)∧V.cell? ⟨bb,off+q*4+2,none⟩=some (.string ⟨x2.toArray⟩)) V':=fun V V' ⟨a,b,c⟩ d=>⟨bel_trans a d,cell_bel d b,cell_bel d c⟩
   go_wp2_with fail
   go_region_held3 (fun V=>Below w1.heap.size w1 V∧V.cell? ⟨bb,off+q*4+1,none⟩=some (.int .i64 x1)∧V.cell? ⟨bb,off+q*4+2,none⟩=some (.string ⟨x2.toArray⟩)) (first | exact S0 | exact keepS _ _ (by assumption) (by assumption)) (first | (go_at_call 54;refine (D1 _ (bel_trans b1 (And.left (by assumption)))).mono ?_;rintro e' w' ⟨rfl,b8⟩))
   go_wp2_with fail
   go_ret
   exact ⟨rfl,bel_trans b1 (And.left (by assumption))⟩
 ·have hcf:countI h i=false:=by simpa using hc
  rw [hcf] at CC
  have hA:outerI h i=false:=by
   unfold outerI outerB
   unfold countI at hcf
   rw [← Bool.and_assoc,hcf,Bool.false_and]
  rw [hA]
  clear hA hcf hc
  go_enter Tryz.func68,Tryz.ntmps68
  go_wp2_with fail
  refine (CC _ (Below.refl _ _)).mono ?_
  rintro e w1 ⟨rfl,b1⟩
  go_wp2_with fail
  go_quiet (fail)
  go_wp2_with fail
  go_ret
  exact ⟨rfl,below_drewN b1 _⟩
open Go.RowKit Go.Maps Go.Sort
theorem intsV_map (L:List Int):recV intV L=L.map (Value.int .i64):=by
 induction L with
 | nil=>rfl
 | cons x l ih=>rw [show x::l=[x]++l from rfl,recV_append,ih];rfl
theorem psortI_own {W:World} {B:Nat} {v:Value} {L:List Int} (h:W.ownsRow B 3 1 v L.length (recV intV L)) (hl:L.length≤17592186043904) :
 Calls Tryz.prog 56 #[v] W fun e W1=>e=.returned (.tuple #[])∧W.grownBy W1 v.ownBlock∧W1.ownsRow B 3 1 v L.length (recV intV (L.mergeSort fun x y=>decide (x≤y))):=by
 rcases h.2 with ⟨rfl,h0⟩ | ⟨g,cp,cur,rfl,hbase,hb,k1,k2,k3,k4⟩
 ·have hk0:L=[]:=List.length_eq_zero_iff.1 h0
  subst hk0
  refine (psortI_none none 0 W).mono ?_
  rintro e W1 ⟨rfl,rfl⟩
  exact ⟨rfl,World.grownBy.refl _ _,by rw [List.mergeSort_nil];exact World.ownsRow_nil _ _ _ _⟩
 ·rw [intsV_map] at k4
  have hH:=holds_of_blockI (ss:=L) hb (by simpa using k4)
  have hTS:=fun n os=>ownsRow_sortedI (w:=W) (n:=n) (os:=os) (ts:=L.mergeSort fun x y=>decide (x≤y)) (ss:=L) (by simp) hbase hb k1 k2 k3
  refine (psortI_any g 0 cp L W hH (Array.getElem?_eq_some_iff.1 hb).1 (by omega)).mono ?_
  rintro e w' ⟨r1,nn,os,r2⟩
  refine ⟨r1,by rw [r2];exact grownBy_sortedI _,?_⟩
  rw [r2,intsV_map]
  exact hTS nn os
theorem IsLfs.at {W:World} {v:Value} {L:List Lf} (h:IsRec 4 lifV W v L):∃ a cap,v=.slice a L.length cap∧L.length≤cap∧cap≤9223372036854775807 ∧
 Hid (∀ k (hk:k < L.length),∃ b off,a=some ⟨b,off,none⟩∧∀ V,Below W.heap.size W V→V.cell? ⟨b,off+k*4,none⟩=some (.int .i64 L[k].1)∧V.cell? ⟨b,off+k*4+1,none⟩=some (.int .i64 (L[k].2.1:Int))∧V.cell? ⟨b,off+k*4+2,none⟩=some (.int .i64 (L[k].2.2.1:Int))∧V.cell? ⟨b,off+k*4+3,none⟩=some (.bool L[k].2.2.2)):=by
 obtain ⟨a,cap,rfl,h1,h2,h3,HC⟩:=h.some_at
 refine ⟨a,cap,rfl,h1,h2,?_⟩
 intro k hk
 obtain ⟨b,off,rfl,hlt,hc⟩:=HC.out k hk
 refine ⟨b,off,rfl,fun V hV=>?_⟩
 exact ⟨(hV.cell (p:=⟨b,off+k*4,none⟩) hlt).trans (hc 0 _ rfl),(hV.cell (p:=⟨b,off+k*4+1,none⟩) hlt).trans (hc 1 _ rfl),(hV.cell (p:=⟨b,off+k*4+2,none⟩) hlt).trans (hc 2 _ rfl),(hV.cell (p:=⟨b,off+k*4+3,none⟩) hlt).trans (hc 3 _ rfl)⟩
set_option maxHeartbeats 4000000 in
theorem pnodes10_any (h:List Ev) (v:Value) (w:World) (hT:IsEvs w v h) (hG:∀ x∈h,goodE x) (hf:fewH h) :
 Calls Tryz.prog 30 #[v] w fun e w'=>InRow w (nodeL h) e w':=by
 have CL:=plives8_any h v w hT hG (by have:=hf.2;omega)
 have HS:=node_sorted h hf.1
 have hll:=lives_len h
 have hh:=hf.2
 obtain ⟨a,cap,rfl,_⟩:=hT.some_at
 obtain ⟨L,hL⟩:∃ L,livesL h=L:=⟨_,rfl⟩
 rw [hL] at CL HS hll
 have HSS:Hid ((cmF L).mergeSort (fun x y=>decide (x≤y))=nodeL h):=HS
 clear HS hL hf hT hG
 go_enter Tryz.func30,Tryz.ntmps30
 go_wp2_with fail
 refine CL.mono ?_
 rintro e1 w1 ⟨v1,rfl,b1,ho1⟩
 have hR:=IsRec.own lifV_len (by omega) ho1 (by omega)
 obtain ⟨a1,cap1,rfl,q1,q2,HQ⟩:=IsLfs.at hR
 clear hR CL ho1
 obtain ⟨n,hn⟩:∃ n,L.length=n:=⟨_,rfl⟩
 have HN:Hid (L.length=n):=hn
 rw [hn] at q1 hll ⊢
 clear hn
 go_wp2_with fail
 go_loopw [3,9] (fun r i wr=>∃ k c:Nat,k≤n∧c≤k∧i=.int .i64 k∧Hid ((cmF (L.take k)).length=c)∧Below w.heap.size w wr∧Hid (∀ V,Below wr.heap.size wr V→Below w1.heap.size w1 V)∧(∀ g,r.ownBlock=some g→w1.heap.size≤g)∧wr.ownsRow w.heap.size 3 1 r c (recV intV (cmF (L.take k)))) (fun _ i _=>n - (intOf i).toNat)
 case atStart=>exact ⟨0,0,Nat.zero_le _,Nat.le_refl _,rfl,rfl,b1,fun V hV=>hV,fun g hg=>by simp [Value.ownBlock] at hg,World.ownsRow_nil _ _ _ _⟩
 case round =>
  obtain ⟨k,c,hk,hc,rfl,HL,hbw,HB,far,hrow⟩:=hrel
  obtain ⟨ad,cc,rfl⟩:=own_shape hrow
  by_cases hlt:k < n
  ·have hk1:Hid (k < L.length):=by show k < _;rw [HN.out];exact hlt
   have j0:(k:Int) < (n:Int):=by omega
   obtain ⟨bb,off,rfl,HC⟩:=HQ.out k hk1.out
   obtain ⟨x0,x1,x2,x3⟩:=HC wr (HB.out wr (Below.refl _ _))
   have hy:=cmF_yes L k hk1.out
   have hno:=cmF_no L k hk1.out
   obtain ⟨⟨y0,y1,y2,y3⟩,he⟩:∃ x,L[k]'hk1.out=x:=⟨_,rfl⟩
   rw [he] at x0 x1 x2 x3 hy hno
   simp only at x0 x1 x2 x3 hy hno
   clear he HC
   cases y3 with
   | true =>
     have HY:Hid (cmF (L.take (k+1))=cmF (L.take k)++[y0]):=hy rfl
     have XE:=SBox.new wr 91 #[.int .i64 y0,.int .i64 (y1:Int),.int .i64 (y2:Int),.bool true]
     have BE:=hbw.alloc hbw.size (.cells #[.int .i64 y0,.int .i64 (y1:Int),.int .i64 (y2:Int),.bool true] 91)
     have hrowE:=hrow.alloc (.cells #[.int .i64 y0,.int .i64 (y1:Int),.int .i64 (y2:Int),.bool true] 91)
     have t0:=XE.cell 0 _ rfl
     have t3:=XE.cell 3 _ rfl
     have s1:=(HB.out wr (Below.refl _ _)).size
     clear hy hno
     go_wp2_with fail
     refine (pbhI_any _ c _ y0 w.heap.size _ hrowE (by have:=BE.size;omega) (by omega)).mono ?_
     rintro e2 w3 ⟨r3,rfl,hown3,hg3,hat3⟩
     have B3:Below w.heap.size w w3:=BE.grown hg3 (by have:=BE.size;omega) (fun j hj=>own_far hrowE j hj)
     have far3:∀ g,r3.ownBlock=some g→w1.heap.size≤g:=fun g hg=>by
      rcases hat3 with e | ⟨g',e,e2⟩
      ·exact far g (by rw [← e];exact hg)
      ·rw [hg] at e;cases e;simp at e2;omega
     have HB3:Hid (∀ V,Below w3.heap.size w3 V→Below w1.heap.size w1 V):=fun V hV=>by
      have g1:=((HB.out wr (Below.refl _ _)).alloc s1 (.cells #[.int .i64 y0,.int .i64 (y1:Int),.int .i64 (y2:Int),.bool true] 91)).grown hg3 (by simp;omega) (fun j hj=>far j hj)
      exact bel_trans g1 hV
     go_wp2_with fail
     refine ⟨⟨k+1,c+1,by omega,by omega,by first | go_num | simp,by show _=_;rw [HY.out,List.length_append,HL.out];rfl,B3,HB3,far3,by rw [HY.out,recV_append];exact hown3⟩,by simp [intOf];omega⟩
   | false =>
     have HY:Hid (cmF (L.take (k+1))=cmF (L.take k)):=hno rfl
     have XE:=SBox.new wr 91 #[.int .i64 y0,.int .i64 (y1:Int),.int .i64 (y2:Int),.bool false]
     have BE:=hbw.alloc hbw.size (.cells #[.int .i64 y0,.int .i64 (y1:Int),.int .i64 (y2:Int),.bool false] 91)
     have hrowE:=hrow.alloc (.cells #[.int .i64 y0,.int .i64 (y1:Int),.int .i64 (y2:Int),.bool false] 91)
     have t0:=XE.cell 0 _ rfl
     have t3:=XE.cell 3 _ rfl
     have s1:=(HB.out wr (Below.refl _ _)).size
     have HB3:Hid (∀ V,Below (wr.alloc (.cells #[.int .i64 y0,.int .i64 (y1:Int),.int .i64 (y2:Int),.bool false] 91)).heap.size (wr.alloc (.cells #[.int .i64 y0,.int .i64 (y1:Int),.int .i64 (y2:Int),.bool false] 91)) V→Below w1.heap.size w1 V):=fun V hV=>HB.out V (bel_trans ((Below.refl _ _).alloc (Nat.le_refl _) _) hV)
     clear hy hno
     go_wp2_with fail
     refine ⟨⟨k+1,c,by omega,by omega,by first | go_num | simp,by show _=_;rw [HY.out];exact HL.out,BE,HB3,far,by rw [HY.out];exact hrowE⟩,by simp [intOf];omega⟩
  ·obtain rfl:k=n:=by omega
   have jq:¬ (k:Int) < (k:Int):=by omega
   have HT:Hid (cmF (L.take k)=cmF L):=by show _=_;rw [← HN.out,List.take_length]
   have hrow2:=hrow
   have hL2:=HL.out
   rw [HT.out] at hrow2 hL2
   rw [← hL2] at hrow2
   have C:=psortI_own hrow2 (by omega)
   rw [HSS.out,hL2] at C
   clear hrow2
   go_wp2_with fail
   refine C.mono ?_
   rintro e2 w3 ⟨rfl,hg,hT1⟩
   have hLen:(nodeL h).length=c:=by rw [← HSS.out,List.length_mergeSort,hL2]
   have B3:Below w.heap.size w w3:=hbw.grown hg hbw.size (fun j hj=>own_far hrow j hj)
   go_wp2_with fail
   go_ret
   refine ⟨_,rfl,B3,?_⟩
   rw [hLen]
   exact hT1
end Go.Proofs.YtdlcimfifkhllaaGreat
namespace Go.Proofs.YtdlcimfifkhllaaGreat
set_option maxRecDepth 100000
open Go.RowKit Go.Shelf
set_option linter.unusedVariables false
attribute [local go_sem] Oper.semAt_some ba_size
theorem pwriter8_any (h:List Ev) (v:Value) (w:World) (hT:IsEvs w v h) (key val:List UInt8) :
 Calls Tryz.prog 79 #[v,.string ⟨key.toArray⟩,.string ⟨val.toArray⟩] w fun e w'=>e=.returned (.int .i64 (oI (writerL h key val)))∧Below w.heap.size w w':=by
 have b1:=(Below.refl w.heap.size w).alloc (Nat.le_refl _) (.cells #[.string ⟨key.toArray⟩] 9)
 have b2:=b1.alloc (by simp) (.cells #[.string ⟨val.toArray⟩] 9)
 have k1:=(Boxed.new w 9 (.string ⟨key.toArray⟩)).alloc (.cells #[.string ⟨val.toArray⟩] 9)
 have k2:=Boxed.new (w.alloc (.cells #[.string ⟨key.toArray⟩] 9)) 9 (.string ⟨val.toArray⟩)
 rw [World.size_alloc] at k2
 have C:=pfirstW_any h v _ (hT.below b2) key val _ _ k1 k2
 have HE:Hid (fi (fun k=>decide ((ev h k).1=3∧(ev h k).2.2.1=key∧(ev h k).2.2.2=val)) h.length=writerL h key val):=rfl
 rw [HE.out] at C
 obtain ⟨r,hr⟩:∃ r,writerL h key val=r:=⟨_,rfl⟩
 rw [hr] at C ⊢
 clear hr HE hT
 go_enter Tryz.func79,Tryz.ntmps79
 go_wp2_with fail
 refine C.mono ?_
 rintro e w1 ⟨rfl,bb⟩
 go_wp2_with fail
 go_ret
 exact ⟨rfl,b2.trans (bb.mono (by simp;omega))⟩
theorem pwritten8_any (h:List Ev) (v:Value) (w:World) (hT:IsEvs w v h) (val:List UInt8) :
 Calls Tryz.prog 78 #[v,.string ⟨val.toArray⟩] w fun e w'=>e=.returned (.bool (fi (sameVal h val) h.length).isSome)∧Below w.heap.size w w':=by
 have b1:=(Below.refl w.heap.size w).alloc (Nat.le_refl _) (.cells #[.string ⟨val.toArray⟩] 9)
 have C:=pfirstV_any h v _ (hT.below b1) val _ (Boxed.new w 9 (.string ⟨val.toArray⟩))
 have HE:Hid (fi (fun k=>decide ((ev h k).1=3∧(ev h k).2.2.2=val)) h.length=fi (sameVal h val) h.length):=rfl
 rw [HE.out] at C
 cases hr:fi (sameVal h val) h.length with
 | none =>
   rw [hr] at C
   simp only [oI] at C
   clear hr HE hT
   go_enter Tryz.func78,Tryz.ntmps78
   go_wp2_with fail
   refine C.mono ?_
   rintro e w1 ⟨rfl,bb⟩
   go_wp2_with fail
   go_ret
   exact ⟨rfl,b1.trans (bb.mono (by simp))⟩
 | some r =>
   rw [hr] at C
   simp only [oI] at C
   have j:((r:Int) != -1)=true:=by rw [bne_iff_ne];omega
   have j':((r:Int)==-1)=false:=by rw [beq_eq_false_iff_ne];omega
   clear hr HE hT
   go_enter Tryz.func78,Tryz.ntmps78
   go_wp2_with fail
   refine C.mono ?_
   rintro e w1 ⟨rfl,bb⟩
   go_wp2_with fail
   go_ret
   exact ⟨rfl,b1.trans (bb.mono (by simp))⟩
structure LSt (w:World) (t:Int) (key:List UInt8) (before:Int) (sl:Value) (m:Int) (W:World):Prop where
 below:Below w.heap.size w W
 size:w.heap.size+1+1+1+1+1≤W.heap.size
 bt:Boxed W (w.heap.size) 3 (.int .i64 t)
 bk:Boxed W (w.heap.size+1) 9 (.string ⟨key.toArray⟩)
 bb:Boxed W (w.heap.size+1+1) 3 (.int .i64 before)
 bl:Boxed W (w.heap.size+1+1+1) 3 (.int .i64 m)
 be:Boxed W (w.heap.size+1+1+1+1) 22 (sl)
theorem LSt.bel {w:World} {t:Int} {key:List UInt8} {before:Int} {sl:Value} {m:Int} {W W':World} (h:LSt w t key before sl m W) (hb:Below (w.heap.size+1+1+1+1+1) W W'):LSt w t key before sl m W' :=
 ⟨h.below.trans (hb.mono (by omega)),Nat.le_trans h.size hb.size,boxed_bel h.bt hb (by omega),boxed_bel h.bk hb (by omega),boxed_bel h.bb hb (by omega),boxed_bel h.bl hb (by omega),boxed_bel h.be hb (by omega)⟩
theorem LSt.put {w:World} {t:Int} {key:List UInt8} {before:Int} {sl:Value} {m:Int} {W:World} (h:LSt w t key before sl m W) (i:Int):LSt w t key before sl i (W.setCell ⟨w.heap.size+1+1+1,0,none⟩ (.int .i64 i)) :=
 ⟨h.below.setCell (p:=⟨w.heap.size+1+1+1,0,none⟩) (by simp;omega) _,by simp;exact h.size,h.bt.other (by omega) _,h.bk.other (by omega) _,h.bb.other (by omega) _,h.bl.set _,h.be.other (by omega) _⟩
def LInv (w:World) (t:Int) (key:List UInt8) (before:Int) (sl:Value) (h:List Ev) (pre:List (Fin h.length)) (W:World):Prop :=
 ∃ m,LSt w t key before sl m W∧(pre <+: List.finRange h.length→m=oI (lastN h t key pre.length)∧(pre.length=0∨(pre.length:Int)≤before))
def LOut (w:World) (t:Int) (key:List UInt8) (before:Int) (sl:Value) (h:List Ev) (c:Code) (pre:List (Fin h.length)) (W:World):Prop :=
 c=.exit 0∧∃ m,LSt w t key before sl m W∧(pre <+: List.finRange h.length→m=oI (lastL h t key before))
theorem lastN_next (h:List Ev) (t:Int) (key:List UInt8) (n:Nat):lastN h t key (n+1)=if isWrT h t key n=true then some n else lastN h t key n:=rfl
set_option maxHeartbeats 2000000 in
theorem plast8_any (h:List Ev) (v:Value) (w:World) (t:Int) (key:List UInt8) (before:Int) (hT:IsEvs w v h) :
 Calls Tryz.prog 107 #[v,.int .i64 t,.string ⟨key.toArray⟩,.int .i64 before] w fun e w'=>e=.returned (.int .i64 (oI (lastL h t key before)))∧Below w.heap.size w w':=by
 have hT0:=hT
 obtain ⟨a,cap,rfl,h1,h2,h3,HC⟩:=hT.some_at
 clear HC hT
 refine (callsIn_wide (n:=3)).1 ?_
 refine callsIn_of_wp_marks Tryz.func107 rfl trivial ?_ rfl
 simp only [Tryz.ntmps107,List.size_toArray,List.length_cons,List.length_nil,Nat.reduceAdd,Nat.reduceSub,Array.replicate_succ,Array.replicate_zero,List.push_toArray,List.append_toArray,List.nil_append,List.cons_append]
 gi_wp2_with ((try refine ⟨trivial,?_⟩);gi_at_call 48;refine (callsIn_wide.2 (pevents8_any _ _ _ _)).mono ?_;rintro e w2 ⟨rfl,rfl⟩)
 have hS0:LSt w t key before (.slice a h.length cap) (-1) (((((w.alloc (.cells #[.int .i64 t] 3)).alloc (.cells #[.string ⟨key.toArray⟩] 9)).alloc (.cells #[.int .i64 before] 3)).alloc (.cells #[.int .i64 (-1)] 3)).alloc (.cells #[.slice a h.length cap] 22)):=by
  have b0:=(((((Boxed.new w 3 (.int .i64 t)).alloc (.cells #[.string ⟨key.toArray⟩] 9)).alloc (.cells #[.int .i64 before] 3)).alloc (.cells #[.int .i64 (-1)] 3)).alloc (.cells #[.slice a h.length cap] 22))
  have b1:=((((Boxed.new (w.alloc (.cells #[.int .i64 t] 3)) 9 (.string ⟨key.toArray⟩)).alloc (.cells #[.int .i64 before] 3)).alloc (.cells #[.int .i64 (-1)] 3)).alloc (.cells #[.slice a h.length cap] 22))
  have b2:=(((Boxed.new ((w.alloc (.cells #[.int .i64 t] 3)).alloc (.cells #[.string ⟨key.toArray⟩] 9)) 3 (.int .i64 before)).alloc (.cells #[.int .i64 (-1)] 3)).alloc (.cells #[.slice a h.length cap] 22))
  have b3:=((Boxed.new (((w.alloc (.cells #[.int .i64 t] 3)).alloc (.cells #[.string ⟨key.toArray⟩] 9)).alloc (.cells #[.int .i64 before] 3)) 3 (.int .i64 (-1))).alloc (.cells #[.slice a h.length cap] 22))
  have b4:=(Boxed.new ((((w.alloc (.cells #[.int .i64 t] 3)).alloc (.cells #[.string ⟨key.toArray⟩] 9)).alloc (.cells #[.int .i64 before] 3)).alloc (.cells #[.int .i64 (-1)] 3)) 22 (.slice a h.length cap))
  (try simp only [World.size_alloc] at b0 b1 b2 b3 b4)
  exact ⟨((((((Below.refl _ w).alloc (by first | exact Nat.le_refl _ | (simp only [World.size_alloc];omega)) _).alloc (by first | exact Nat.le_refl _ | (simp only [World.size_alloc];omega)) _).alloc (by first | exact Nat.le_refl _ | (simp only [World.size_alloc];omega)) _).alloc (by first | exact Nat.le_refl _ | (simp only [World.size_alloc];omega)) _).alloc (by first | exact Nat.le_refl _ | (simp only [World.size_alloc];omega)) _),(by simp),b0,b1,b2,b3,b4⟩
 obtain ⟨W0,hW0⟩:∃ W0,(((((w.alloc (.cells #[.int .i64 t] 3)).alloc (.cells #[.string ⟨key.toArray⟩] 9)).alloc (.cells #[.int .i64 before] 3)).alloc (.cells #[.int .i64 (-1)] 3)).alloc (.cells #[.slice a h.length cap] 22))=W0:=⟨_,rfl⟩
 have sW0:W0.heap.size=w.heap.size+1+1+1+1+1:=by rw [← hW0];simp
 change Code.wpIn _ _ _ _ _ _ (((((w.alloc (.cells #[.int .i64 t] 3)).alloc (.cells #[.string ⟨key.toArray⟩] 9)).alloc (.cells #[.int .i64 before] 3)).alloc (.cells #[.int .i64 (-1)] 3)).alloc (.cells #[.slice a h.length cap] 22))
 rw [hW0] at hS0 ⊢
 clear hW0
 (try refine wpIn_block ?_)
 refine wpIn_rangeFunc_ownH rfl (by omega) (gf:=76) (lb:=#[.pointer (some ⟨w.heap.size+1+1+1+1,0,none⟩)]) rfl trivial (enters_of Tryz.func76 (by kernel_rfl) rfl)
  (events8_stops h w a cap hT0 (w.heap.size+1+1+1+1) (3 - 1) W0 hS0.below hS0.be) (fun h k=>kpE_t h k) (kpE_b (by omega) (by omega)) (Below.refl _ _) (fun _=>rfl)
  (LInv w t key before (.slice a h.length cap) h) (LOut w t key before (.slice a h.length cap) h)
  (ownFrom_of_below (fun _ W ⟨m,h1,_⟩=>by rw [sW0];exact h1.size) (fun _ W W' ⟨m,h1,h2⟩ hb=>⟨m,h1.bel (by rw [sW0] at hb;exact hb),h2⟩))
  (fun c=>ownFrom_of_below (fun _ W ⟨h1,m,h2,h3⟩=>by rw [sW0];exact h2.size) (fun _ W W' ⟨h1,m,h2,h3⟩ hb=>⟨h1,m,h2.bel (by rw [sW0] at hb;exact hb),h3⟩))
  ⟨_,hS0,fun _=>⟨rfl,Or.inl rfl⟩⟩
  (fun x a' W=>∃ Bx,w.heap.size+1+1+1+1 < Bx∧SBox W Bx 49 #[.int .i64 h[x.val].1,.int .i64 h[x.val].2.1,.string ⟨h[x.val].2.2.1.toArray⟩,.string ⟨h[x.val].2.2.2.toArray⟩]∧a'={ tmps:=#[.slice a h.length cap,.int .i64 t,.string ⟨key.toArray⟩,.int .i64 before,undef,.pointer (some ⟨w.heap.size,0,none⟩),.pointer (some ⟨w.heap.size+1,0,none⟩),.pointer (some ⟨w.heap.size+1+1,0,none⟩),.int .i64 0,.pointer (some ⟨w.heap.size+1+1+1,0,none⟩),.int .i64 (x.val:Int),.pointer (some ⟨Bx,0,none⟩),.slice a h.length cap,eventsF8 (w.heap.size+1+1+1+1),.int .i64 (x.val:Int),evW h[x.val],undef,undef,undef,undef,undef,undef,undef,undef,undef,undef,undef,undef,undef,undef],defers:=[] })
  (fun x a' _ A B row hs hg hr=>by
   obtain ⟨Bx,h1,h2,h4⟩:=hs
   exact ⟨Bx,h1,block_kept h2 hg (fun r e=>(hr r e).2),h4⟩)
  ?assign ?body ?done ?stop
 case assign =>
  rintro l pre x W K ⟨m,hS,hp⟩ hK
  have hsz:=hS.size
  gi_wp2
  refine hK _ _ ((KeepsOthers.alloc _ _).from _) ⟨(Below.refl _ W).alloc (by omega) _,Below.heap_alloc W _ _ (by omega)⟩ ⟨m,hS.bel ((Below.refl _ W).alloc hsz _),hp⟩ ⟨W.heap.size,by omega,SBox.new W _ _,rfl⟩
 case body =>
  rintro l pre x a' W hl hrec ⟨m,hS,hp⟩ ⟨Bx,hBx,hblk,rfl⟩ hlt
  have HW0:Hid (W0.heap.size=w.heap.size+1+1+1+1+1):=sW0
  clear sW0 hS0 hl hrec
  have hsz:=hS.size
  have hxn:=x.isLt
  obtain ⟨⟨y0,y1,y2,y3⟩,hy⟩:∃ y,h[x.val]=y:=⟨_,rfl⟩
  have HY:Hid (h[x.val]=(y0,y1,y2,y3)):=hy
  rw [hy] at hblk ⊢
  simp only at hblk
  clear hy
  have q0:=hblk.cell 0 _ rfl
  have q1:=hblk.cell 1 _ rfl
  have q2:=hblk.cell 2 _ rfl
  have q3:=hblk.cell 3 _ rfl
  obtain ⟨i,hxi⟩:∃ i,x.val=i:=⟨_,rfl⟩
  have HI:Hid (x.val=i):=hxi
  rw [hxi] at hxn ⊢
  clear hxi
  have c0:=hS.bt.cell
  have c1:=hS.bk.cell
  have c2:=hS.bb.cell
  have c3:=hS.bl.cell
  have g3:=hS.bl.frozen
  have EK:Hid (x.val=pre.length→pre.length < h.length→ev h pre.length=(y0,y1,y2,y3)):=fun hp2 hp3=>by
   have e:=HY.out
   rw [ev_get h _ hp3]
   simp only [hp2] at e
   exact e
  by_cases hbe:before≤(i:Int)
  ·have HF:Hid (KeepsFrom W0.heap.size W W∧LOut w t key before (.slice a h.length cap) h (.exit 0) (pre++[x]) W) :=
    ⟨KeepsFrom.refl _ _,rfl,m,hS,fun hpre=>by
     obtain ⟨hp1,hp2,hp3⟩:=fin_prefix hpre
     obtain ⟨e1,e2⟩:=hp hp1
     have ei:=HI.out
     rw [e1,last_end h t key before pre.length (by omega) e2 (Or.inr (by omega))]⟩
   clear hS hp HY HI EK
   gi_wp2
   exact HF.out
  ·have hb2:¬ before≤(i:Int):=hbe
   have HB:Hid ((i:Int) < before):=by show _ < _;omega
   by_cases d1:y1=t
   ·have e1:(y1==t)=true:=by rw [d1];exact beq_self_eq_true _
    have C:=pwrites_any y0 y1 y2 y3 key W
    have D1:Hid (y1=t):=d1
    by_cases hm:y0=3∧y2=key
    ·rw [decide_eq_true hm] at C
     have HM:Hid (y0=3∧y2=key):=hm
     clear hm d1 hbe
     gi_wp2_with ((try refine ⟨trivial,?_⟩);gi_at_call 103;refine (CallsIn.inRound l (callsIn_wide.2 C)).mono ?_;clear C;rintro e W1 ⟨rfl,b1⟩;refine Hid.out ?_)
     have s1:=b1.size
     have hS2:=hS.bel (b1.mono hsz)
     have f1:=hS2.bl.cell
     have g1:=hS2.bl.frozen
     have HF:Hid (KeepsFrom W0.heap.size W (W1.setCell ⟨w.heap.size+1+1+1,0,none⟩ (.int .i64 (i:Int)))∧KpE w.heap.size (w.heap.size+1+1+1+1) W (W1.setCell ⟨w.heap.size+1+1+1,0,none⟩ (.int .i64 (i:Int)))∧LInv w t key before (.slice a h.length cap) h (pre++[x]) (W1.setCell ⟨w.heap.size+1+1+1,0,none⟩ (.int .i64 (i:Int)))) :=
      ⟨((keeps_of_below b1).trans (KeepsOthers.setCell _ _ _)).from _,⟨(b1.mono (by omega)).setCell (p:=⟨w.heap.size+1+1+1,0,none⟩) (by simp;omega) _,(Below.heap_setCell _ _ _ _ (by simp)).trans (b1.block _ (by omega))⟩,_,hS2.put _,fun hpre=>by
        obtain ⟨hp1,hp2,hp3⟩:=fin_prefix hpre
        have ei:=HI.out
        have hb:=HB.out
        have ek:=EK.out hp2 hp3
        rw [List.length_append,List.length_singleton,lastN_next,if_pos (by unfold isWrT;rw [ek];exact decide_eq_true ⟨HM.out.1,D1.out,HM.out.2⟩)]
        exact ⟨by rw [← hp2,ei];rfl,Or.inr (by omega)⟩⟩
     clear hS hS2 hp HY HI HM EK D1
     refine Lib.hid ?_
     gi_wp2
     exact HF.out
    ·rw [decide_eq_false hm] at C
     have HM:Hid (¬ (y0=3∧y2=key)):=hm
     clear hm d1 hbe
     gi_wp2_with ((try refine ⟨trivial,?_⟩);gi_at_call 103;refine (CallsIn.inRound l (callsIn_wide.2 C)).mono ?_;clear C;rintro e W1 ⟨rfl,b1⟩;refine Hid.out ?_)
     have s1:=b1.size
     have hS2:=hS.bel (b1.mono hsz)
     have HF:Hid (KeepsFrom W0.heap.size W W1∧KpE w.heap.size (w.heap.size+1+1+1+1) W W1∧LInv w t key before (.slice a h.length cap) h (pre++[x]) W1) :=
      ⟨(keeps_of_below b1).from _,⟨b1.mono (by omega),b1.block _ (by omega)⟩,m,hS2,fun hpre=>by
        obtain ⟨hp1,hp2,hp3⟩:=fin_prefix hpre
        obtain ⟨e1,e2⟩:=hp hp1
        have ei:=HI.out
        have hb:=HB.out
        have ek:=EK.out hp2 hp3
        rw [List.length_append,List.length_singleton,lastN_next,if_neg (by unfold isWrT;rw [ek];simp only [decide_eq_true_eq];exact fun hh=>HM.out ⟨hh.1,hh.2.2⟩)]
        exact ⟨e1,Or.inr (by omega)⟩⟩
     clear hS hS2 hp HY HI HM EK D1
     refine Lib.hid ?_
     gi_wp2
     exact HF.out
   ·have e1:(y1==t)=false:=beq_eq_false_iff_ne.2 d1
    have D1:Hid (¬ y1=t):=d1
    have HF:Hid (KeepsFrom W0.heap.size W W∧KpE w.heap.size (w.heap.size+1+1+1+1) W W∧LInv w t key before (.slice a h.length cap) h (pre++[x]) W) :=
     ⟨KeepsFrom.refl _ _,⟨Below.refl _ _,rfl⟩,m,hS,fun hpre=>by
      obtain ⟨hp1,hp2,hp3⟩:=fin_prefix hpre
      obtain ⟨e1,e2⟩:=hp hp1
      have ei:=HI.out
      have hb:=HB.out
      have ek:=EK.out hp2 hp3
      rw [List.length_append,List.length_singleton,lastN_next,if_neg (by unfold isWrT;rw [ek];simp only [decide_eq_true_eq];exact fun hh=>D1.out hh.2.1)]
      exact ⟨e1,Or.inr (by omega)⟩⟩
    clear hS hp HY HI EK D1 d1 hbe
    gi_wp2
    refine ⟨trivial,?_⟩
    gi_wp2
    exact HF.out
 case done =>
  rintro D ys W hD rfl ⟨m,hS,hp⟩ hK
  obtain ⟨e1,e2⟩:=hp (List.prefix_refl _)
  rw [List.length_finRange] at e1 e2
  have HE:Hid (m=oI (lastL h t key before)):=by show _=_;rw [e1,last_end h t key before h.length (Nat.le_refl _) e2 (Or.inl rfl)]
  have f1:=hS.bl.cell
  have HD:Hid (w.heap.size+1+1+1+1+1≤D):=by rw [sW0] at hD;exact hD
  clear sW0 hS0 hD hp e1 e2
  gi_wp2
  refine ⟨by simp,.inl ⟨_,_,rfl,run_takeDeferred hK,?_⟩⟩
  exact ⟨_,results_tmp rfl _ _ _,by rw [← HE.out];rfl,hS.below.trans (belowK_b (w:=w) (Nat.le_refl _) _ D _ _ (by have:=HD.out;omega) hK rfl rfl)⟩
 case stop =>
  rintro D c pre W hD hSp ⟨rfl,m,hS,hbad⟩ hK
  have HE:Hid (m=oI (lastL h t key before)):=hbad hSp
  have f1:=hS.bl.cell
  have HD:Hid (w.heap.size+1+1+1+1+1≤D):=by rw [sW0] at hD;exact hD
  clear sW0 hS0 hD hbad
  gi_wp2
  refine ⟨by simp,.inl ⟨_,_,rfl,run_takeDeferred hK,?_⟩⟩
  exact ⟨_,results_tmp rfl _ _ _,by rw [← HE.out];rfl,hS.below.trans (belowK_b (w:=w) (Nat.le_refl _) _ D _ _ (by have:=HD.out;omega) hK rfl rfl)⟩
end Go.Proofs.YtdlcimfifkhllaaGreat
namespace Go.Proofs.YtdlcimfifkhllaaGreat
set_option maxRecDepth 100000
set_option linter.unusedVariables false
theorem bads_is (h:List Ev):badsL h=(List.range h.length).filterMap (badAt h):=rfl
theorem bads_pre (h:List Ev):∀ m k,k≤m→∃ r,(List.range m).filterMap (badAt h)=(List.range k).filterMap (badAt h)++r
 | 0,k,hk=>⟨[],by obtain rfl:k=0:=by omega
                  simp⟩
 | m+1,k,hk=>by
   rcases Nat.lt_or_ge k (m+1) with h1 | h1
   ·obtain ⟨r,hr⟩:=bads_pre h m k (by omega)
    exact ⟨r++(badAt h m).toList,by rw [bads_next,hr,List.append_assoc]⟩
   ·obtain rfl:k=m+1:=by omega
    exact ⟨[],by simp⟩
end Go.Proofs.YtdlcimfifkhllaaGreat
namespace Go.Proofs.YtdlcimfifkhllaaGreat
set_option maxRecDepth 100000
open Go.RowKit Go.Shelf Go.Maps
set_option linter.unusedVariables false
attribute [local go_sem] Oper.semAt_some ba_size
structure QSt (w:World) (sl v:Value) (m:Nat) (q:List UInt8→Bool) (K:List (List UInt8)) (W:World):Prop where
 below:Below w.heap.size w W
 size:w.heap.size+1+1+1+1≤W.heap.size
 bv:Boxed W (w.heap.size) 100 v
 bm:TSet W (w.heap.size+1) m q
 bb:Boxed W (w.heap.size+1+1) 125 (.map (some (w.heap.size+1)))
 be:Boxed W (w.heap.size+1+1+1) 22 sl
 row:W.ownsRow w.heap.size 9 1 v K.length (strV K)
 far:∀ g,v.ownBlock=some g→w.heap.size+1+1+1+1≤g
section
variable {w:World} {sl v:Value} {m:Nat} {q:List UInt8→Bool} {K:List (List UInt8)} {W W':World} {row:Option Nat}
theorem QSt.turn (h:QSt w sl v m q K W) (hg:W.grownBy W' row) (hr:∀ r,row=some r→w.heap.size+1+1+1+1≤r∧∃ o:Obj,W.heap[r]?=some o∧o.isCells=false):QSt w sl v m q K W':=by
 have o:∀ j,j < w.heap.size+1+1+1+1→some j≠row:=fun j hj e=>by have:=(hr j e.symm).1;omega
 exact ⟨h.below.grown hg (by have:=h.size;omega) (fun r e=>by have:=(hr r e).1;omega),Nat.le_trans h.size hg.size,h.bv.kept hg (o _ (by omega)),h.bm.kept hg (o _ (by omega)),h.bb.kept hg (o _ (by omega)),h.be.kept hg (o _ (by omega)),owns_turn h.row hg (fun r e=>(hr r e).2),h.far⟩
theorem QSt.bel (h:QSt w sl v m q K W) (hb:Below W.heap.size W W'):QSt w sl v m q K W':=h.turn (grown_below8 none hb) (fun r e=>by cases e)
theorem QSt.map {m':Nat} {q':List UInt8→Bool} (h:QSt w sl v m q K W) (hg:W.grownBy W' (some (w.heap.size+1))) (hf:TSet W' (w.heap.size+1) m' q'):QSt w sl v m' q' K W':=by
 have o:∀ j,j≠w.heap.size+1→some j≠some (w.heap.size+1):=fun j hj e=>hj (Option.some.inj e)
 refine ⟨h.below.grown hg (by have:=h.size;omega) (fun r e=>by cases e;omega),Nat.le_trans h.size hg.size,h.bv.kept hg (o _ (by omega)),hf,h.bb.kept hg (o _ (by omega)),h.be.kept hg (o _ (by omega)),h.row.kept hg ?_,h.far⟩
 cases hv:v.ownBlock with
 | none=>exact .inl rfl
 | some g=>exact .inr (fun e=>by have:=h.far g hv;have:=Option.some.inj e;omega)
theorem QSt.keep (h:QSt w sl v m q K W) {m':Nat} (hm:m≤m'):QSt w sl v m' q K W:=⟨h.below,h.size,h.bv,h.bm.mono hm,h.bb,h.be,h.row,h.far⟩
theorem QSt.app {v':Value} {K':List (List UInt8)} {tmp:Obj} (h:QSt w sl v m q K W) (hown:W'.ownsRow w.heap.size 9 1 v' K'.length (strV K')) (hg:(W.alloc tmp).grownBy W' v.ownBlock) (hat:v'.ownBlock=v.ownBlock∨v'.ownBlock=some (W.heap.size+1)) :
 QSt w sl v' m q K' (W'.setCell ⟨w.heap.size,0,none⟩ v'):=by
 have hs:=h.size
 have hfar:∀ g,v'.ownBlock=some g→w.heap.size+1+1+1+1≤g:=fun g hv=>by
  rcases hat with e | e
  ·exact h.far g (by rw [← e];exact hv)
  ·rw [hv] at e
   have:=Option.some.inj e
   omega
 have o:∀ j,j < w.heap.size+1+1+1+1→some j≠v.ownBlock:=fun j hj e=>by have:=h.far j e.symm;omega
 have hsz:=hg.size
 rw [World.size_alloc] at hsz
 have hb:Below w.heap.size w W':=(h.below.alloc h.below.size _).grown hg (by simp;omega) (fun r e=>by have:=h.far r e;omega)
 refine ⟨hb.setCell (p:=⟨w.heap.size,0,none⟩) (Nat.le_refl _) _,by simp;omega,((h.bv.alloc _).kept hg (o _ (by omega))).set _,?_,((h.bb.alloc _).kept hg (o _ (by omega))).other (by omega) _,((h.be.alloc _).kept hg (o _ (by omega))).other (by omega) _,owns_keep7 (g:=w.heap.size) (j:=0) hown _ (fun e=>by have:=hfar _ e.symm;omega),hfar⟩
 refine TSet.same (W:=W') ((h.bm.kept (World.grownBy_alloc _ tmp none) (by simp)).kept hg (o _ (by omega))) ?_
 exact Below.heap_setCell _ _ _ _ (by simp)
end
theorem str_info8k:(Tryz.prog.info? 9).map (fun i=>(i.zero,i.size,i.bytes))=some (some (.string ByteArray.empty),1,16):=by kernel_rfl
theorem strV_one (K:List (List UInt8)) (y:List UInt8):strV (K++[y])=strV K++[.string ⟨y.toArray⟩]:=by unfold strV;rw [List.map_append];rfl
theorem zero8u' (w:World):(zeroValue 126).run Tryz.prog w=.ok (.agg #[]) w:=by kernel_rfl
theorem kpE_bel8 {n b:Nat} {W W':World} (hn:n≤W.heap.size) (hb:b < W.heap.size) (h:Below W.heap.size W W'):KpE n b W W':=⟨h.mono hn,h.block b hb⟩
theorem kpE_grown8 {n b:Nat} {W W':World} {row:Option Nat} (hn:n≤W.heap.size) (hb:b < W.heap.size) (hg:W.grownBy W' row) (hr:∀ r,row=some r→n≤r∧r≠b):KpE n b W W' :=
 ⟨(Below.refl n W).grown hg hn (fun r e=>(hr r e).1),hg.block b hb (fun e=>(hr b e.symm).2 rfl)⟩
def QInv (w:World) (sl:Value) (h:List Ev) (pre:List (Fin h.length)) (W:World):Prop :=
 ∃ v,QSt w sl v pre.length (fun t=>decide (t∈kyF h pre)) (kyF h pre) W
set_option maxHeartbeats 4000000 in
theorem pkeys8_any (h:List Ev) (v:Value) (w:World) (hT:IsEvs w v h) (hG:∀ x∈h,goodE x) (hn:h.length≤300) :
 Calls Tryz.prog 64 #[v] w fun e w'=>TxsRow w (keysL h) e w':=by
 have hT0:=hT
 obtain ⟨a,cap,rfl,h1,h2,h3,HC⟩:=hT.some_at
 clear HC hT
 have hmm:=@run_makeMap Tryz.prog
 obtain ⟨i0,hi,hz0,hz1,hz2⟩:=info_parts str_info8k
 refine (callsIn_wide (n:=3)).1 ?_
 refine callsIn_of_wp_marks Tryz.func64 rfl trivial ?_ rfl
 simp only [Tryz.ntmps64,List.size_toArray,List.length_cons,List.length_nil,Nat.reduceAdd,Nat.reduceSub,Array.replicate_succ,Array.replicate_zero,List.push_toArray,List.append_toArray,List.nil_append,List.cons_append]
 gi_wp2_with ((try refine ⟨trivial,?_⟩);gi_at_call 48;refine (callsIn_wide.2 (pevents8_any _ _ _ _)).mono ?_;rintro e w2 ⟨rfl,rfl⟩)
 have hS0:QSt w (.slice a h.length cap) (.slice none 0 0) 0 (fun _=>false) [] ((((w.alloc (.cells #[.slice none 0 0] 100)).alloc (.map #[] 0)).alloc (.cells #[.map (some (w.heap.size+1))] 125)).alloc (.cells #[.slice a h.length cap] 22)):=by
  have b0:=(((Boxed.new w 100 (.slice none 0 0)).alloc (.map #[] 0)).alloc (.cells #[.map (some (w.heap.size+1))] 125)).alloc (.cells #[.slice a h.length cap] 22)
  have b1:=((TSet.made (w.alloc (.cells #[.slice none 0 0] 100))).kept (World.grownBy_alloc _ (.cells #[.map (some (w.heap.size+1))] 125) none) (by simp)).kept (World.grownBy_alloc _ (.cells #[.slice a h.length cap] 22) none) (by simp)
  have b2:=(Boxed.new ((w.alloc (.cells #[.slice none 0 0] 100)).alloc (.map #[] 0)) 125 (.map (some (w.heap.size+1)))).alloc (.cells #[.slice a h.length cap] 22)
  have b3:=Boxed.new (((w.alloc (.cells #[.slice none 0 0] 100)).alloc (.map #[] 0)).alloc (.cells #[.map (some (w.heap.size+1))] 125)) 22 (.slice a h.length cap)
  simp only [World.size_alloc] at b0 b1 b2 b3
  exact ⟨((((Below.refl _ w).alloc (Nat.le_refl _) _).alloc (by simp) _).alloc (by simp;omega) _).alloc (by simp;omega) _,by simp,b0,b1,b2,b3,World.ownsRow_nil _ _ _ _,fun g hg=>by simp [Value.ownBlock] at hg⟩
 obtain ⟨W0,hW0⟩:∃ W0,((((w.alloc (.cells #[.slice none 0 0] 100)).alloc (.map #[] 0)).alloc (.cells #[.map (some (w.heap.size+1))] 125)).alloc (.cells #[.slice a h.length cap] 22))=W0:=⟨_,rfl⟩
 have sW0:W0.heap.size=w.heap.size+1+1+1+1:=by rw [← hW0];simp
 change Code.wpIn _ _ _ _ _ _ ((((w.alloc (.cells #[.slice none 0 0] 100)).alloc (.map #[] 0)).alloc (.cells #[.map (some (w.heap.size+1))] 125)).alloc (.cells #[.slice a h.length cap] 22))
 rw [hW0] at hS0 ⊢
 clear hW0
 refine wpIn_rangeFunc_ownH rfl (by omega) (gf:=76) (lb:=#[.pointer (some ⟨w.heap.size+1+1+1,0,none⟩)]) rfl trivial (enters_of Tryz.func76 (by kernel_rfl) rfl)
  (events8_stops h w a cap hT0 (w.heap.size+1+1+1) (3 - 1) W0 hS0.below hS0.be) (fun h k=>kpE_t h k) (kpE_b (by omega) (by omega)) (Below.refl _ _) (fun _=>rfl)
  (QInv w (.slice a h.length cap) h) (fun _ _ _=>False)
  (fun s X Y row ⟨v,hs⟩ hg hr=>⟨v,hs.turn hg (fun r e=>⟨by have:=(hr r e).1;omega,(hr r e).2⟩)⟩)
  (fun _=>ownFrom_false _)
  ⟨_,by
   have e:(fun t:List UInt8=>decide (t∈kyF h []))=fun _=>false:=by funext t;show decide (t∈[])=false;simp
   rw [e]
   exact hS0⟩
  (fun x a' W=>∃ Bx,w.heap.size+1+1+1 < Bx∧SBox W Bx 49 #[.int .i64 h[x.val].1,.int .i64 h[x.val].2.1,.string ⟨h[x.val].2.2.1.toArray⟩,.string ⟨h[x.val].2.2.2.toArray⟩]∧a'={ tmps:=#[.slice a h.length cap,undef,.slice none 0 0,.pointer (some ⟨w.heap.size,0,none⟩),.pointer (some ⟨w.heap.size+1+1,0,none⟩),undef,.pointer (some ⟨Bx,0,none⟩),undef,undef,.map (some (w.heap.size+1)),.slice a h.length cap,eventsF8 (w.heap.size+1+1+1),.int .i64 (x.val:Int),evW h[x.val],undef,undef,undef,undef,undef,undef,undef,undef,undef,undef,undef,undef,undef,undef,undef,undef,undef,undef,undef,undef,undef,undef,undef,undef,undef,undef,undef,undef,undef],defers:=[] })
  (fun x a' _ A B row hs hg hr=>by
   obtain ⟨Bx,h1,h2,h4⟩:=hs
   exact ⟨Bx,h1,block_kept h2 hg (fun r e=>(hr r e).2),h4⟩)
  ?assign ?body ?done ?stop
 case assign =>
  rintro l pre x W K ⟨v,hS⟩ hK
  have hsz:=hS.size
  have b1:=(Below.refl W.heap.size W).alloc (Nat.le_refl _) (.cells #[.int .i64 h[x.val].1,.int .i64 h[x.val].2.1,.string ⟨h[x.val].2.2.1.toArray⟩,.string ⟨h[x.val].2.2.2.toArray⟩] 49)
  gi_wp2
  refine hK _ _ ((KeepsOthers.alloc _ _).from _) (kpE_bel8 (by omega) (by omega) b1) ⟨v,hS.bel b1⟩ ⟨W.heap.size,by omega,SBox.new W _ _,rfl⟩
 case body =>
  rintro l pre x a' W hl hrec ⟨v,hS⟩ ⟨Bx,hBx,hblk,rfl⟩ hlt
  have HW0:Hid (W0.heap.size=w.heap.size+1+1+1+1):=sW0
  clear sW0 hS0 hl hrec
  have hsz:=hS.size
  have hxn:=x.isLt
  have hgx:=hG h[x.val] (List.getElem_mem _)
  obtain ⟨⟨y0,y1,y2,y3⟩,hy⟩:∃ y,h[x.val]=y:=⟨_,rfl⟩
  have HV:Hid (kyF h (pre++[x])=kyS (kyF h pre) (y0,y1,y2,y3)):=by show _=_;rw [kyF_snoc,hy]
  have lenL:=kyF_len h pre
  obtain ⟨K,hs⟩:∃ K,kyF h pre=K:=⟨_,rfl⟩
  rw [hs] at hS lenL HV
  clear hs
  rw [hy] at hblk hgx ⊢
  simp only at hblk hgx
  clear hy
  have ki:=key8s (t:=y2) (by have hl:y2.length≤140737488351232:=hgx.2.2.1;omega)
  clear hgx
  obtain ⟨i,hxi⟩:∃ i,x.val=i:=⟨_,rfl⟩
  rw [hxi] at hxn ⊢
  clear hxi
  have LX:Hid ((pre++[x]).length=pre.length+1):=by show _=_;simp
  have c3:=hS.bb.cell
  have q0:=hblk.cell 0 _ rfl
  have q2:=hblk.cell 2 _ rfl
  have bU:=(Below.refl W.heap.size W).alloc (Nat.le_refl _) (.cells #[] 126)
  obtain ⟨D1,hown1,hD1⟩:=hS.bm
  have hy1:=hD1 y2
  by_cases hk:y0=2∨y0=3
  ·have e2:(y0 != 2)=false∨(y0 != 2)=true∧(y0 != 3)=false:=by
    rcases hk with rfl | rfl
    ·exact Or.inl rfl
    ·exact Or.inr ⟨rfl,rfl⟩
   by_cases hm:y2∈K
   ·have HF:Hid (KeepsFrom W0.heap.size W (W.alloc (.cells #[] 126))∧KpE w.heap.size (w.heap.size+1+1+1) W (W.alloc (.cells #[] 126))∧QInv w (.slice a h.length cap) h (pre++[x]) (W.alloc (.cells #[] 126))):=by
     refine ⟨(KeepsOthers.alloc _ _).from _,kpE_bel8 (by omega) (by omega) bU,v,?_⟩
     have e:kyS K (y0,y1,y2,y3)=K:=by unfold kyS;rw [if_pos hk,if_pos hm]
     rw [LX.out,HV.out,e]
     exact (hS.bel bU).keep (Nat.le_succ _)
    have hy2:Maps.has D1 (.string y2)=true:=hy1.trans (decide_eq_true hm)
    clear hS hD1 hy1 hm hk HV
    rcases e2 with e2 | ⟨e2,e3⟩
    all_goals
     gi_wp2_with (gi_at_lookup;refine wpListIn_lookup_own_unit _ rfl _ _ 125 rfl 9 126 law8s Tryz.underlying125 (zero8u' _) (w.heap.size+1) pre.length D1 rfl hown1 _ _ rfl ki ?_;rw [hy2])
     exact HF.out
   ·have hy2:Maps.has D1 (.string y2)=false:=hy1.trans (decide_eq_false hm)
    have HE:Hid (kyS K (y0,y1,y2,y3)=K++[y2]):=by show _=_;unfold kyS;rw [if_pos hk,if_neg hm]
    have hSU:=hS.bel bU
    have xU:=hblk.below bU
    have c3U:=hSU.bb.cell
    have q2U:=xU.cell 2 _ rfl
    obtain ⟨DU,hownU,hDU⟩:=hSU.bm
    clear hy1 hm hk
    rcases e2 with e2 | ⟨e2,e3⟩
    all_goals
     gi_wp2_with (first
      | (gi_at_lookup;refine wpListIn_lookup_own_unit _ rfl _ _ 125 rfl 9 126 law8s Tryz.underlying125 (zero8u' _) (w.heap.size+1) pre.length D1 rfl hown1 _ _ rfl ki ?_;rw [hy2])
      | (gi_at_mapUpdate;refine wpListIn_mapUpdate_own _ rfl _ _ _ 125 rfl 9 126 law8s Tryz.underlying125 _ (w.heap.size+1) pre.length DU rfl hownU (by unfold maxLen;omega) _ _ _ rfl rfl ki _ [] unitElem_mk ?_;intro W1 hown2 hg2;refine Hid.out ?_))
     have hS1:=hSU.map hg2 (TSet.put hDU hownU.isMap y2 hown2)
     have z1:=hg2.size
     rw [World.size_alloc] at z1
     have x1:SBox W1 Bx 49 #[.int .i64 y0,.int .i64 y1,.string ⟨y2.toArray⟩,.string ⟨y3.toArray⟩]:=(hg2.block Bx xU.lt (fun e=>by have:=Option.some.inj e;omega)).trans xU
     have KK1:KeepsFrom W0.heap.size W W1:=by
      have hw0:=HW0.out
      exact ((KeepsOthers.alloc W (.cells #[] 126)).from _).trans (KeepsFrom.of_grownBy hg2 (fun j e=>by cases e;omega))
     have KP1:KpE w.heap.size (w.heap.size+1+1+1) W W1:=kpE_t (kpE_bel8 (by omega) (by omega) bU) (kpE_grown8 (by simp;omega) (by simp;omega) hg2 (fun r e=>by cases e;omega))
     have cv:=hS1.bv.cell
     have gv:=hS1.bv.frozen
     have d2:=x1.cell 2 _ rfl
     have hrow:=hS1.row
     refine Lib.hid ?_
     gi_wp2_with (gi_at_builtin;refine wpListIn_append_own_at _ rfl _ _ 100 rfl w.heap.size 9 i0 (.string ByteArray.empty) 1 16 Tryz.underlying100 hi hz0 hz1 hz2 rfl (by decide) _ _ _ rfl (hrow.alloc _) ⟨W1.heap.size,0,none⟩ 1 1 [.string ⟨y2.toArray⟩] rfl rfl ?a1 ?a2 ?a3 ?a4 ?a5 ?_)
     case a1=>intro j u hj;match j,hj with
      | 0,hj=>simp at hj;subst hj;simp [Addr.add]
     case a2=>intro u hu;simp at hu;subst hu;rfl
     case a3=>unfold maxLen;omega
     case a4=>omega
     case a5=>simp;omega
     intro v' W2 hown2' hg2' _ hat2
     obtain ⟨g',cap',rfl⟩:=ownsRow_succ hown2'
     have hS2:=hS1.app (K':=K++[y2]) (by rw [strV_one,List.length_append];exact hown2') hg2' hat2
     have bv2:=(hS1.bv.alloc (.cells #[.string ⟨y2.toArray⟩] 9)).kept hg2' (fun e=>by have:=hS1.far _ e.symm;omega)
     have cv2:=bv2.cell
     have gv2:=bv2.frozen
     have z2:=hg2'.size
     rw [World.size_alloc] at z2
     have KK2:=(KK1.trans ((KeepsOthers.alloc W1 (.cells #[.string ⟨y2.toArray⟩] 9)).from _)).trans ((keeps_row (hrow.alloc (.cells #[.string ⟨y2.toArray⟩] 9)) hg2').from _)
     have KP2:=kpE_t (kpE_t KP1 (kpE_bel8 (by omega) (by omega) ((Below.refl W1.heap.size W1).alloc (Nat.le_refl _) (.cells #[.string ⟨y2.toArray⟩] 9)))) (kpE_grown8 (by simp;omega) (by simp;omega) hg2' (fun r e=>by have:=hS1.far r e;omega))
     have HF:Hid (KeepsFrom W0.heap.size W (W2.setCell ⟨w.heap.size,0,none⟩ (.slice (some ⟨g',0,none⟩) (K.length+1) cap'))∧KpE w.heap.size (w.heap.size+1+1+1) W (W2.setCell ⟨w.heap.size,0,none⟩ (.slice (some ⟨g',0,none⟩) (K.length+1) cap'))∧QInv w (.slice a h.length cap) h (pre++[x]) (W2.setCell ⟨w.heap.size,0,none⟩ (.slice (some ⟨g',0,none⟩) (K.length+1) cap'))):=by
      refine ⟨KK2.trans ((KeepsOthers.setCell _ _ _).from _),kpE_t KP2 (kpE_grown8 (by omega) (by omega) (grownBy_setCell' _ _ _) (fun r e=>by cases e;omega)),.slice (some ⟨g',0,none⟩) (K.length+1) cap',?_⟩
      have e:(fun t=>decide (t∈K++[y2]))=fun u=>(decide (u∈K) || decide (y2=u)):=by
       funext u
       rw [Bool.eq_iff_iff,Bool.or_eq_true,decide_eq_true_eq,decide_eq_true_eq,decide_eq_true_eq,List.mem_append,List.mem_singleton]
       exact ⟨fun hh=>hh.imp id Eq.symm,fun hh=>hh.imp id Eq.symm⟩
      rw [LX.out,HV.out,HE.out,e]
      exact hS2
     clear hS hS1 hS2 hown1 hown2 hown2' KK1 KP1 KK2 KP2 HV HE x1 hrow hat2 hD1 hDU hownU
     gi_wp2
     exact HF.out
  ·have e2:(y0 != 2)=true:=by rw [bne_iff_ne];exact fun e=>hk (Or.inl e)
   have e3:(y0 != 3)=true:=by rw [bne_iff_ne];exact fun e=>hk (Or.inr e)
   have HF:Hid (KeepsFrom W0.heap.size W W∧KpE w.heap.size (w.heap.size+1+1+1) W W∧QInv w (.slice a h.length cap) h (pre++[x]) W):=by
    refine ⟨KeepsFrom.refl _ _,⟨Below.refl _ _,rfl⟩,v,?_⟩
    have e:kyS K (y0,y1,y2,y3)=K:=by unfold kyS;rw [if_neg hk]
    rw [LX.out,HV.out,e]
    exact hS.keep (Nat.le_succ _)
   clear hS hD1 hy1 hk HV
   gi_wp2
   exact HF.out
 case done =>
  rintro D ys W hD rfl ⟨v,hS⟩ hK
  have HE:Hid (((kyF h (List.finRange h.length)).mergeSort fun x y=>decide (x≤y))=keysL h):=ky_sorted h
  have c1:=hS.bv.cell
  have HD:Hid (w.heap.size+1+1+1+1≤D):=by rw [sW0] at hD;exact hD
  have lenL:=kyF_len h (List.finRange h.length)
  rw [List.length_finRange] at lenL
  obtain ⟨K,hs⟩:∃ K,kyF h (List.finRange h.length)=K:=⟨_,rfl⟩
  rw [hs] at hS HE lenL
  clear sW0 hS0 hD hs
  rcases hS.row.2 with ⟨rfl,h0⟩ | ⟨g,cp,cur,rfl,hbase,hb,k1,k2,k3,k4⟩
  ·have hk0:K=[]:=List.length_eq_zero_iff.1 h0
   gi_wp2_with ((try refine ⟨trivial,?_⟩);gi_at_call 93;refine (callsIn_wide.2 (psort_none none 0 W)).mono ?_;rintro e W1 ⟨rfl,rfl⟩)
   refine ⟨by simp,.inl ⟨_,_,rfl,run_takeDeferred hK,?_⟩⟩
   refine ⟨_,results_tmp rfl _ _ _,_,rfl,hS.below.trans (belowK_b (w:=w) (Nat.le_refl _) _ D _ _ (by have:=HD.out;omega) hK rfl rfl),?_⟩
   have e:keysL h=[]:=by rw [← HE.out,hk0];simp
   rw [e]
   exact World.ownsRow_nil _ _ _ _
  ·have hH:=holds_of_block (ss:=K) hb (by simpa [strV] using k4)
   have hfar:=hS.far g rfl
   have hTS:=fun n os=>ownsRow_sorted (w:=W) (n:=n) (os:=os) (ts:=K.mergeSort fun x y=>decide (x≤y)) (ss:=K) (by simp) hbase hb k1 k2 k3
   have C:Calls Tryz.prog 93 #[.slice (some ⟨g,0,none⟩) K.length cp] W fun e W1=>e=.returned (.tuple #[])∧W.grownBy W1 (some g)∧W1.ownsRow w.heap.size 9 1 (.slice (some ⟨g,0,none⟩) K.length cp) K.length ((K.mergeSort fun x y=>decide (x≤y)).map encStr) :=
    (psort_any g 0 cp K W hH (Array.getElem?_eq_some_iff.1 hb).1 (by omega)).mono (fun e w' ⟨r1,nn,os,r2⟩=>⟨r1,by rw [r2];exact grownBy_sorted _,by rw [r2];exact hTS nn os⟩)
   gi_wp2_with ((try refine ⟨trivial,?_⟩);gi_at_call 93;refine (callsIn_wide.2 C).mono ?_;clear C;rintro e W1 ⟨rfl,hg,hT1⟩;refine Hid.out ?_)
   have b1:=hS.bv.kept hg (fun e=>by have:=Option.some.inj e;omega)
   have d1:=b1.cell
   have hK1:W1.heap[D]?=some (.deferred (some [])):=(hg.block D (Array.getElem?_eq_some_iff.1 hK).1 (fun e=>by cases e;rw [hb] at hK;cases hK)).trans hK
   have hB1:Below w.heap.size w W1:=hS.below.grown hg (by have:=hS.size;omega) (fun r e=>by cases e;omega)
   rw [HE.out] at hT1
   have hLen:(keysL h).length=K.length:=by rw [← HE.out];simp
   have HLen:Hid ((keysL h).length=K.length):=hLen
   clear hg hTS hLen hS hb hH c1
   refine Lib.hid ?_
   gi_wp2
   refine ⟨by simp,.inl ⟨_,_,rfl,run_takeDeferred hK1,?_⟩⟩
   refine ⟨_,results_tmp rfl _ _ _,_,rfl,hB1.trans (belowK_b (w:=w) (Nat.le_refl _) _ D _ _ (by have:=HD.out;omega) hK1 rfl rfl),?_⟩
   rw [HLen.out]
   exact ownsRow_putObj hT1 _ hK1 rfl
 case stop =>
  rintro D c pre W hD hSp h hK
  exact h.elim
end Go.Proofs.YtdlcimfifkhllaaGreat
