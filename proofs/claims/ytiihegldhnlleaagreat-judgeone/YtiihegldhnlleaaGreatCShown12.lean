/-
  What cartouchelaw12.skew, shown and few answer.
-/
import Derived.Test.YtiihegldhnlleaaGreatCL0b
namespace Go.Proofs.YtiihegldhnlleaaGreat
set_option maxRecDepth 100000
open Go.RowKit
set_option linter.unusedVariables false
attribute [local go_sem] ba_size
abbrev sk97:List Ev:=[(1,1,[],[]),(1,2,[],[]),(2,1,[98],[]),(2,1,[97],[]),(2,2,[97],[]),(3,1,[97],[120]),(3,2,[97],[121]),(4,1,[],[]),(4,2,[],[])]
abbrev sk98:List Ev:=[(1,1,[],[]),(1,2,[],[]),(2,1,[98],[]),(2,1,[97],[]),(2,2,[97],[]),(3,1,[97],[120]),(3,2,[98],[121]),(4,1,[],[]),(4,2,[],[])]
theorem sk_t1:(judgeL sk97 1).2=0∧(judgeL sk97 1).1.2.1=false:=by decide +kernel
theorem sk_t2:(judgeL sk97 2).2=0∧(judgeL sk97 2).1.2.1=false:=by decide +kernel
theorem sk_f1:(judgeL sk98 1).2=0∧(judgeL sk98 1).1.2.1=false:=by decide +kernel
theorem sk_f2:(judgeL sk98 2).2=0∧(judgeL sk98 2).1.2.1=true∧(judgeL sk98 2).1.2.2.1.length=2:=by decide +kernel
theorem own_shape13 {W:World} {B e k n:Nat} {v:Value} {xs:List Value} (h:W.ownsRow B e k v n xs):∃ ad c,v=.slice ad n c:=by
 rcases h.2 with ⟨rfl,rfl⟩ | ⟨g,cap,cur,rfl,_⟩
 ·exact ⟨none,0,rfl⟩
 ·exact ⟨_,_,rfl⟩
theorem own_lit12 (w:World) (e n:Nat) (L:List Ev) (hn:L.length=n) (hs:n≤1000):(w.alloc (.cells (recV evV L).toArray e)).ownsRow w.heap.size e 4 (.slice (some ⟨w.heap.size,0,none⟩) n n) n (recV evV L) :=
 ⟨by rw [recV_length evV_len,hn],.inr ⟨w.heap.size,n,_,rfl,Nat.le_refl _,SBox.new w e _,Nat.le_refl _,by unfold maxLen;omega,by rw [List.size_toArray,recV_length evV_len,hn],by rw [List.toList_toArray,List.take_of_length_le (by rw [recV_length evV_len,hn];exact Nat.le_refl _)]⟩⟩
def EvMade (w:World) (L:List Ev) (e:Ending) (w':World):Prop:=∃ v,e=.returned v∧Below w.heap.size w w'∧IsEvs w' v L
set_option maxHeartbeats 1000000 in
theorem skew_t (w:World):Calls Tryz.prog 24 #[.bool true] w fun e w'=>EvMade w sk97 e w':=by
 have O1:(w.alloc (.cells #[.int .i64 1,.int .i64 1,.string ⟨#[]⟩,.string ⟨#[]⟩,.int .i64 1,.int .i64 2,.string ⟨#[]⟩,.string ⟨#[]⟩,.int .i64 2,.int .i64 1,.string ⟨#[98]⟩,.string ⟨#[]⟩,.int .i64 2,.int .i64 1,.string ⟨#[97]⟩,.string ⟨#[]⟩,.int .i64 2,.int .i64 2,.string ⟨#[97]⟩,.string ⟨#[]⟩,.int .i64 3,.int .i64 1,.string ⟨#[97]⟩,.string ⟨#[120]⟩,.int .i64 3,.int .i64 2,.string ⟨#[97]⟩,.string ⟨#[121]⟩,.int .i64 4,.int .i64 1,.string ⟨#[]⟩,.string ⟨#[]⟩,.int .i64 4,.int .i64 2,.string ⟨#[]⟩,.string ⟨#[]⟩] 49)).ownsRow w.heap.size 49 4 (.slice (some ⟨w.heap.size,0,none⟩) 9 9) 9 (recV evV sk97):=own_lit12 w 49 9 sk97 rfl (by omega)
 have T1:=IsRec.own (L:=sk97) evV_len (by omega) O1 (by omega)
 have B1:=(Below.refl w.heap.size w).alloc (Nat.le_refl _) (.cells #[.int .i64 1,.int .i64 1,.string ⟨#[]⟩,.string ⟨#[]⟩,.int .i64 1,.int .i64 2,.string ⟨#[]⟩,.string ⟨#[]⟩,.int .i64 2,.int .i64 1,.string ⟨#[98]⟩,.string ⟨#[]⟩,.int .i64 2,.int .i64 1,.string ⟨#[97]⟩,.string ⟨#[]⟩,.int .i64 2,.int .i64 2,.string ⟨#[97]⟩,.string ⟨#[]⟩,.int .i64 3,.int .i64 1,.string ⟨#[97]⟩,.string ⟨#[120]⟩,.int .i64 3,.int .i64 2,.string ⟨#[97]⟩,.string ⟨#[121]⟩,.int .i64 4,.int .i64 1,.string ⟨#[]⟩,.string ⟨#[]⟩,.int .i64 4,.int .i64 2,.string ⟨#[]⟩,.string ⟨#[]⟩] 49)
 go_enter Tryz.func24,Tryz.ntmps24
 go_wp2_with fail
 go_ret
 exact ⟨_,rfl,B1,T1⟩
set_option maxHeartbeats 1000000 in
theorem skew_f (w:World):Calls Tryz.prog 24 #[.bool false] w fun e w'=>EvMade w sk98 e w':=by
 have O1:(w.alloc (.cells #[.int .i64 1,.int .i64 1,.string ⟨#[]⟩,.string ⟨#[]⟩,.int .i64 1,.int .i64 2,.string ⟨#[]⟩,.string ⟨#[]⟩,.int .i64 2,.int .i64 1,.string ⟨#[98]⟩,.string ⟨#[]⟩,.int .i64 2,.int .i64 1,.string ⟨#[97]⟩,.string ⟨#[]⟩,.int .i64 2,.int .i64 2,.string ⟨#[97]⟩,.string ⟨#[]⟩,.int .i64 3,.int .i64 1,.string ⟨#[97]⟩,.string ⟨#[120]⟩,.int .i64 3,.int .i64 2,.string ⟨#[98]⟩,.string ⟨#[121]⟩,.int .i64 4,.int .i64 1,.string ⟨#[]⟩,.string ⟨#[]⟩,.int .i64 4,.int .i64 2,.string ⟨#[]⟩,.string ⟨#[]⟩] 49)).ownsRow w.heap.size 49 4 (.slice (some ⟨w.heap.size,0,none⟩) 9 9) 9 (recV evV sk98):=own_lit12 w 49 9 sk98 rfl (by omega)
 have T1:=IsRec.own (L:=sk98) evV_len (by omega) O1 (by omega)
 have B1:=(Below.refl w.heap.size w).alloc (Nat.le_refl _) (.cells #[.int .i64 1,.int .i64 1,.string ⟨#[]⟩,.string ⟨#[]⟩,.int .i64 1,.int .i64 2,.string ⟨#[]⟩,.string ⟨#[]⟩,.int .i64 2,.int .i64 1,.string ⟨#[98]⟩,.string ⟨#[]⟩,.int .i64 2,.int .i64 1,.string ⟨#[97]⟩,.string ⟨#[]⟩,.int .i64 2,.int .i64 2,.string ⟨#[97]⟩,.string ⟨#[]⟩,.int .i64 3,.int .i64 1,.string ⟨#[97]⟩,.string ⟨#[120]⟩,.int .i64 3,.int .i64 2,.string ⟨#[98]⟩,.string ⟨#[121]⟩,.int .i64 4,.int .i64 1,.string ⟨#[]⟩,.string ⟨#[]⟩,.int .i64 4,.int .i64 2,.string ⟨#[]⟩,.string ⟨#[]⟩] 49)
 go_enter Tryz.func24,Tryz.ntmps24
 go_wp2_with fail
 go_ret
 exact ⟨_,rfl,B1,T1⟩
set_option maxHeartbeats 4000000 in
theorem shown12_any (C:P12C) (w:World):Calls Tryz.prog 10 #[] w fun e w'=>e=.returned (.bool true)∧Below w.heap.size w w':=by
 have J:=fun (L:List Ev) (hl:L.length≤120) (hg:∀ x∈L,goodE x) (lv:Int) (h1:-9223372036854775808≤lv∧lv≤9223372036854775807) v W (hT:IsEvs W v L)=>C.judge L v W lv hT hg hl h1
 have g97:∀ x∈sk97,goodE x:=by unfold goodE;simp
 have g98:∀ x∈sk98,goodE x:=by unfold goodE;simp
 have J1:=J sk97 (by simp) g97 1 (by omega)
 have J2:=J sk97 (by simp) g97 2 (by omega)
 have J3:=J sk98 (by simp) g98 1 (by omega)
 have J4:=J sk98 (by simp) g98 2 (by omega)
 have e1:=sk_t1
 have e2:=sk_t2
 have e3:=sk_f1
 have e4:=sk_f2
 obtain ⟨⟨⟨l1,a1,o1,⟨p1,q1,r1⟩,g1⟩,x1⟩,hx1⟩:∃ y,judgeL sk97 1=y:=⟨_,rfl⟩
 rw [hx1] at J1 e1
 simp only at e1
 obtain ⟨rfl,rfl⟩:=e1
 clear hx1
 obtain ⟨⟨⟨l2,a2,o2,⟨p2,q2,r2⟩,g2⟩,x2⟩,hx2⟩:∃ y,judgeL sk97 2=y:=⟨_,rfl⟩
 rw [hx2] at J2 e2
 simp only at e2
 obtain ⟨rfl,rfl⟩:=e2
 clear hx2
 obtain ⟨⟨⟨l3,a3,o3,⟨p3,q3,r3⟩,g3⟩,x3⟩,hx3⟩:∃ y,judgeL sk98 1=y:=⟨_,rfl⟩
 rw [hx3] at J3 e3
 simp only at e3
 obtain ⟨rfl,rfl⟩:=e3
 clear hx3
 obtain ⟨⟨⟨l4,a4,o4,⟨p4,q4,r4⟩,g4⟩,x4⟩,hx4⟩:∃ y,judgeL sk98 2=y:=⟨_,rfl⟩
 rw [hx4] at J4 e4
 simp only at e4
 obtain ⟨rfl,rfl,ol4⟩:=e4
 clear hx4
 clear J g97 g98
 go_enter Tryz.func10,Tryz.ntmps10
 go_wp2_with fail
 refine (skew_t _).mono ?_
 rintro e w1a ⟨v1,rfl,b1a,T1⟩
 go_wp2_with fail
 refine (J1 _ _ T1).mono ?_
 rintro e w1 ⟨vo1,vr1,rfl,b1,O1,R1⟩
 obtain ⟨oa1,oc1,rfl⟩:=own_shape13 O1
 obtain ⟨ra1,rc1,rfl⟩:=own_shape13 R1
 have D1':=bel_trans (Below.refl w.heap.size w) (bel_trans b1a b1)
 have D1:=D1'.alloc D1'.size (.cells #[.int .i64 l1,.bool false,.slice oa1 o1.length oc1,.int .i64 p1,.int .i64 q1,.int .i64 r1,.slice ra1 g1.length rc1] 28)
 have Q1:=SBox.new w1 28 #[.int .i64 l1,.bool false,.slice oa1 o1.length oc1,.int .i64 p1,.int .i64 q1,.int .i64 r1,.slice ra1 g1.length rc1]
 clear T1 O1 R1 b1a b1
 go_wp2_with fail
 refine (skew_t _).mono ?_
 rintro e w2a ⟨v2,rfl,b2a,T2⟩
 go_wp2_with fail
 refine (J2 _ _ T2).mono ?_
 rintro e w2 ⟨vo2,vr2,rfl,b2,O2,R2⟩
 obtain ⟨oa2,oc2,rfl⟩:=own_shape13 O2
 obtain ⟨ra2,rc2,rfl⟩:=own_shape13 R2
 have D2':=bel_trans D1 (bel_trans b2a b2)
 have D2:=D2'.alloc D2'.size (.cells #[.int .i64 l2,.bool false,.slice oa2 o2.length oc2,.int .i64 p2,.int .i64 q2,.int .i64 r2,.slice ra2 g2.length rc2] 28)
 have Q2:=SBox.new w2 28 #[.int .i64 l2,.bool false,.slice oa2 o2.length oc2,.int .i64 p2,.int .i64 q2,.int .i64 r2,.slice ra2 g2.length rc2]
 have Q1:=(Q1.below (bel_trans b2a b2)).alloc (.cells #[.int .i64 l2,.bool false,.slice oa2 o2.length oc2,.int .i64 p2,.int .i64 q2,.int .i64 r2,.slice ra2 g2.length rc2] 28)
 clear T2 O2 R2 b2a b2
 go_wp2_with fail
 refine (skew_f _).mono ?_
 rintro e w3a ⟨v3,rfl,b3a,T3⟩
 go_wp2_with fail
 refine (J3 _ _ T3).mono ?_
 rintro e w3 ⟨vo3,vr3,rfl,b3,O3,R3⟩
 obtain ⟨oa3,oc3,rfl⟩:=own_shape13 O3
 obtain ⟨ra3,rc3,rfl⟩:=own_shape13 R3
 have D3':=bel_trans D2 (bel_trans b3a b3)
 have D3:=D3'.alloc D3'.size (.cells #[.int .i64 l3,.bool false,.slice oa3 o3.length oc3,.int .i64 p3,.int .i64 q3,.int .i64 r3,.slice ra3 g3.length rc3] 28)
 have Q3:=SBox.new w3 28 #[.int .i64 l3,.bool false,.slice oa3 o3.length oc3,.int .i64 p3,.int .i64 q3,.int .i64 r3,.slice ra3 g3.length rc3]
 have Q1:=(Q1.below (bel_trans b3a b3)).alloc (.cells #[.int .i64 l3,.bool false,.slice oa3 o3.length oc3,.int .i64 p3,.int .i64 q3,.int .i64 r3,.slice ra3 g3.length rc3] 28)
 have Q2:=(Q2.below (bel_trans b3a b3)).alloc (.cells #[.int .i64 l3,.bool false,.slice oa3 o3.length oc3,.int .i64 p3,.int .i64 q3,.int .i64 r3,.slice ra3 g3.length rc3] 28)
 clear T3 O3 R3 b3a b3
 go_wp2_with fail
 refine (skew_f _).mono ?_
 rintro e w4a ⟨v4,rfl,b4a,T4⟩
 go_wp2_with fail
 refine (J4 _ _ T4).mono ?_
 rintro e w4 ⟨vo4,vr4,rfl,b4,O4,R4⟩
 obtain ⟨oa4,oc4,rfl⟩:=own_shape13 O4
 obtain ⟨ra4,rc4,rfl⟩:=own_shape13 R4
 have D4':=bel_trans D3 (bel_trans b4a b4)
 have D4:=D4'.alloc D4'.size (.cells #[.int .i64 l4,.bool true,.slice oa4 o4.length oc4,.int .i64 p4,.int .i64 q4,.int .i64 r4,.slice ra4 g4.length rc4] 28)
 have Q4:=SBox.new w4 28 #[.int .i64 l4,.bool true,.slice oa4 o4.length oc4,.int .i64 p4,.int .i64 q4,.int .i64 r4,.slice ra4 g4.length rc4]
 have Q1:=(Q1.below (bel_trans b4a b4)).alloc (.cells #[.int .i64 l4,.bool true,.slice oa4 o4.length oc4,.int .i64 p4,.int .i64 q4,.int .i64 r4,.slice ra4 g4.length rc4] 28)
 have Q2:=(Q2.below (bel_trans b4a b4)).alloc (.cells #[.int .i64 l4,.bool true,.slice oa4 o4.length oc4,.int .i64 p4,.int .i64 q4,.int .i64 r4,.slice ra4 g4.length rc4] 28)
 have Q3:=(Q3.below (bel_trans b4a b4)).alloc (.cells #[.int .i64 l4,.bool true,.slice oa4 o4.length oc4,.int .i64 p4,.int .i64 q4,.int .i64 r4,.slice ra4 g4.length rc4] 28)
 clear T4 R4 b4a b4
 have t1:=Q1.cell 1 _ rfl
 have t2:=Q2.cell 1 _ rfl
 have t3:=Q3.cell 1 _ rfl
 have t4:=Q4.cell 1 _ rfl
 have t5:=Q4.cell 2 _ rfl
 have t6:((o4.length:Int)==2)=true:=by rw [ol4];rfl
 have OL4:Hid (o4.length=2):=ol4
 clear O4 ol4
 go_wp2_with fail
 go_ret
 exact ⟨rfl,D4⟩
set_option maxHeartbeats 1000000 in
theorem few12_any (v:Value) (h:List Ev) (w:World) (hT:IsEvs w v h):Calls Tryz.prog 11 #[v] w fun e w'=>e=.returned (.bool (decide (h.length≤80)))∧Below w.heap.size w w':=by
 obtain ⟨a,cap,rfl,h1,h2,h3,HC⟩:=hT.reads
 obtain ⟨n,hn⟩:∃ n,h.length=n:=⟨_,rfl⟩
 rw [hn]
 clear hT hn HC h1 h3
 by_cases h8:n≤80
 ·rw [decide_eq_true h8]
  have j8:(n:Int)≤80:=by omega
  go_enter Tryz.func11,Tryz.ntmps11
  go_wp2_with fail
  go_ret
  exact ⟨rfl,Below.refl _ _⟩
 ·rw [decide_eq_false h8]
  have j8:¬ (n:Int)≤80:=by omega
  go_enter Tryz.func11,Tryz.ntmps11
  go_wp2_with fail
  go_ret
  exact ⟨rfl,Below.refl _ _⟩
end Go.Proofs.YtiihegldhnlleaaGreat
