/-
  What cert.May answers.
-/
import Derived.Test.YthamoeekiglphaaGreatDoorEP14MayA
namespace Go.Proofs.YthamoeekiglphaaGreatDoor
set_option maxRecDepth 100000
open Go.RowKit
set_option linter.unusedVariables false
attribute [local go_sem] ba_size
set_option maxHeartbeats 4000000 in
theorem pverdictMay14 (lv k i j:Int) (ac:Bool) (oa:Option Addr) (oc:Nat) (o:List Int) (ra:Option Addr) (rc:Nat) (r:List Ed) (w:World) (hO:IsInts w (.slice oa o.length oc) o) (hR:IsEds w (.slice ra r.length rc) r):Calls Tryz.prog 70 #[.agg #[.int .i64 lv,.bool ac,.slice oa o.length oc,.int .i64 k,.int .i64 i,.int .i64 j,.slice ra r.length rc]] w fun e w'=>e=.returned (.bool (decide (vdM (lv,ac,o,(k,i,j),r))))∧Below w.heap.size w w':=by
 have B0:=(Below.refl w.heap.size w).alloc (Nat.le_refl _) (.cells #[.int .i64 lv,.bool ac,.slice oa o.length oc,.int .i64 k,.int .i64 i,.int .i64 j,.slice ra r.length rc] 27);have X0:=SBox.new w 27 #[.int .i64 lv,.bool ac,.slice oa o.length oc,.int .i64 k,.int .i64 i,.int .i64 j,.slice ra r.length rc];obtain ⟨ans,hans⟩:∃ b,decide (vdM (lv,ac,o,(k,i,j),r))=b:=⟨_,rfl⟩;rw [hans];have HA:Hid (decide (vdM (lv,ac,o,(k,i,j),r))=ans):=hans;clear hans;have c0_0:(w.alloc (.cells #[.int .i64 lv,.bool ac,.slice oa o.length oc,.int .i64 k,.int .i64 i,.int .i64 j,.slice ra r.length rc] 27)).cell? ⟨w.heap.size,0,none⟩=some (.int .i64 lv):=X0.cell 0 _ rfl;have c0_2:(w.alloc (.cells #[.int .i64 lv,.bool ac,.slice oa o.length oc,.int .i64 k,.int .i64 i,.int .i64 j,.slice ra r.length rc] 27)).cell? ⟨w.heap.size,2,none⟩=some (.slice oa o.length oc):=X0.cell 2 _ rfl
 by_cases h0:1≤lv∧lv≤2
 case neg =>
  have HN:Hid (¬ (vdM (lv,ac,o,(k,i,j),r))):=fun h=>h0 h.1.1
  have a1:(lv==1)=false:=by simp;omega
  have a2:(lv==2)=false:=by simp;omega
  clear h0;go_enter Tryz.func70,Tryz.ntmps70
  go_wp2_with fail
  go_ret
  exact ⟨ans14 ((decide_eq_false HN.out).symm.trans HA.out),B0⟩
 have K0:Hid (1≤lv∧lv≤2):=h0
 by_cases hl:lv=1
 ·have a1:(lv==1)=true:=by simp;omega
  clear h0 hl;go_enter Tryz.func70,Tryz.ntmps70
  go_wp2_with fail
  have C1:=fun (W:World) (hW:Below w.heap.size w W)=>pallI14 32 o _ W (hO.below hW)
  by_cases h1:o.length≤32∧∀ x∈o,txM x
  case neg =>
   have HN:Hid (¬ (vdM (lv,ac,o,(k,i,j),r))):=fun h=>h1 (⟨h.1.2.1,h.2.1⟩)
   simp only [decide_eq_false h1] at C1;clear h1;refine (C1 _ (by assumption)).mono ?_;rintro e w1 ⟨rfl,b1⟩;have B1:=bel_trans B0 b1;go_wp2_with fail
   go_ret
   exact ⟨ans14 ((decide_eq_false HN.out).symm.trans HA.out),B1⟩
  have K1:Hid (o.length≤32∧∀ x∈o,txM x):=h1;simp only [decide_eq_true h1] at C1;clear h1;refine (C1 _ (by assumption)).mono ?_;rintro e w1 ⟨rfl,b1⟩;have B1:=bel_trans B0 b1;have X1:=X0.below b1;have c1_3:w1.cell? ⟨w.heap.size,3,none⟩=some (.int .i64 k):=X1.cell 3 _ rfl;clear X0 B0 b1 C1;go_wp2_with fail
  have C2:=fun (W:World) (hW:Below w.heap.size w W)=>pwithin14 k 0 4 W
  by_cases h2:0≤k∧k≤4
  case neg =>
   have HN:Hid (¬ (vdM (lv,ac,o,(k,i,j),r))):=fun h=>h2 (h.1.2.2.1)
   simp only [decide_eq_false h2] at C2;clear h2;refine (C2 _ (by assumption)).mono ?_;rintro e w2 ⟨rfl,b2⟩;have B2:=bel_trans B1 b2;go_wp2_with fail
   go_ret
   exact ⟨ans14 ((decide_eq_false HN.out).symm.trans HA.out),B2⟩
  have K2:Hid (0≤k∧k≤4):=h2;simp only [decide_eq_true h2] at C2;clear h2;refine (C2 _ (by assumption)).mono ?_;rintro e w2 ⟨rfl,b2⟩;have B2:=bel_trans B1 b2;have X2:=X1.below b2;have c2_4:w2.cell? ⟨w.heap.size,4,none⟩=some (.int .i64 i):=X2.cell 4 _ rfl;clear X1 B1 b2 C2;go_wp2_with fail
  have C3:=fun (W:World) (hW:Below w.heap.size w W)=>pisPlace14 i W
  by_cases h3:plM i
  case neg =>
   have HN:Hid (¬ (vdM (lv,ac,o,(k,i,j),r))):=fun h=>h3 (h.1.2.2.2.1.1)
   simp only [decide_eq_false h3] at C3;clear h3;refine (C3 _ (by assumption)).mono ?_;rintro e w3 ⟨rfl,b3⟩;have B3:=bel_trans B2 b3;go_wp2_with fail
   go_ret
   exact ⟨ans14 ((decide_eq_false HN.out).symm.trans HA.out),B3⟩
  have K3:Hid (plM i):=h3;simp only [decide_eq_true h3] at C3;clear h3;refine (C3 _ (by assumption)).mono ?_;rintro e w3 ⟨rfl,b3⟩;have B3:=bel_trans B2 b3;have X3:=X2.below b3;have c3_5:w3.cell? ⟨w.heap.size,5,none⟩=some (.int .i64 j):=X3.cell 5 _ rfl;clear X2 B2 b3 C3;go_wp2_with fail
  have C4:=fun (W:World) (hW:Below w.heap.size w W)=>pisPlace14 j W
  by_cases h4:plM j
  case neg =>
   have HN:Hid (¬ (vdM (lv,ac,o,(k,i,j),r))):=fun h=>h4 (h.1.2.2.2.1.2)
   simp only [decide_eq_false h4] at C4;clear h4;refine (C4 _ (by assumption)).mono ?_;rintro e w4 ⟨rfl,b4⟩;have B4:=bel_trans B3 b4;go_wp2_with fail
   go_ret
   exact ⟨ans14 ((decide_eq_false HN.out).symm.trans HA.out),B4⟩
  have K4:Hid (plM j):=h4;simp only [decide_eq_true h4] at C4;clear h4;refine (C4 _ (by assumption)).mono ?_;rintro e w4 ⟨rfl,b4⟩;have B4:=bel_trans B3 b4;have X4:=X3.below b4;have c4_6:w4.cell? ⟨w.heap.size,6,none⟩=some (.slice ra r.length rc):=X4.cell 6 _ rfl;clear X3 B3 b4 C4;go_wp2_with fail
  have C5:=fun (W:World) (hW:Below w.heap.size w W)=>pallE14 128 r _ W (hR.below hW)
  by_cases h5:r.length≤128∧∀ x∈r,edM x
  case neg =>
   have HN:Hid (¬ (vdM (lv,ac,o,(k,i,j),r))):=fun h=>h5 (⟨h.1.2.2.2.2,h.2.2⟩)
   simp only [decide_eq_false h5] at C5;clear h5;refine (C5 _ (by assumption)).mono ?_;rintro e w5 ⟨rfl,b5⟩;have B5:=bel_trans B4 b5;go_wp2_with fail
   go_ret
   exact ⟨ans14 ((decide_eq_false HN.out).symm.trans HA.out),B5⟩
  have K5:Hid (r.length≤128∧∀ x∈r,edM x):=h5;simp only [decide_eq_true h5] at C5;clear h5;refine (C5 _ (by assumption)).mono ?_;rintro e w5 ⟨rfl,b5⟩;have B5:=bel_trans B4 b5;have X5:=X4.below b5;clear X4 B4 b5 C5;go_wp2_with fail
  go_ret
  exact ⟨ans14 ((decide_eq_true (show vdM (lv,ac,o,(k,i,j),r) from ⟨⟨K0.out,K1.out.1,K2.out,⟨K3.out,K4.out⟩,K5.out.1⟩,K1.out.2,K5.out.2⟩)).symm.trans HA.out),B5⟩
 ·have a1:(lv==1)=false:=by simp;omega
  have a2:(lv==2)=true:=by simp;omega
  clear h0 hl;go_enter Tryz.func70,Tryz.ntmps70
  go_wp2_with fail
  have C1:=fun (W:World) (hW:Below w.heap.size w W)=>pallI14 32 o _ W (hO.below hW)
  by_cases h1:o.length≤32∧∀ x∈o,txM x
  case neg =>
   have HN:Hid (¬ (vdM (lv,ac,o,(k,i,j),r))):=fun h=>h1 (⟨h.1.2.1,h.2.1⟩)
   simp only [decide_eq_false h1] at C1;clear h1;refine (C1 _ (by assumption)).mono ?_;rintro e w1 ⟨rfl,b1⟩;have B1:=bel_trans B0 b1;go_wp2_with fail
   go_ret
   exact ⟨ans14 ((decide_eq_false HN.out).symm.trans HA.out),B1⟩
  have K1:Hid (o.length≤32∧∀ x∈o,txM x):=h1;simp only [decide_eq_true h1] at C1;clear h1;refine (C1 _ (by assumption)).mono ?_;rintro e w1 ⟨rfl,b1⟩;have B1:=bel_trans B0 b1;have X1:=X0.below b1;have c1_3:w1.cell? ⟨w.heap.size,3,none⟩=some (.int .i64 k):=X1.cell 3 _ rfl;clear X0 B0 b1 C1;go_wp2_with fail
  have C2:=fun (W:World) (hW:Below w.heap.size w W)=>pwithin14 k 0 4 W
  by_cases h2:0≤k∧k≤4
  case neg =>
   have HN:Hid (¬ (vdM (lv,ac,o,(k,i,j),r))):=fun h=>h2 (h.1.2.2.1)
   simp only [decide_eq_false h2] at C2;clear h2;refine (C2 _ (by assumption)).mono ?_;rintro e w2 ⟨rfl,b2⟩;have B2:=bel_trans B1 b2;go_wp2_with fail
   go_ret
   exact ⟨ans14 ((decide_eq_false HN.out).symm.trans HA.out),B2⟩
  have K2:Hid (0≤k∧k≤4):=h2;simp only [decide_eq_true h2] at C2;clear h2;refine (C2 _ (by assumption)).mono ?_;rintro e w2 ⟨rfl,b2⟩;have B2:=bel_trans B1 b2;have X2:=X1.below b2;have c2_4:w2.cell? ⟨w.heap.size,4,none⟩=some (.int .i64 i):=X2.cell 4 _ rfl;clear X1 B1 b2 C2;go_wp2_with fail
  have C3:=fun (W:World) (hW:Below w.heap.size w W)=>pisPlace14 i W
  by_cases h3:plM i
  case neg =>
   have HN:Hid (¬ (vdM (lv,ac,o,(k,i,j),r))):=fun h=>h3 (h.1.2.2.2.1.1)
   simp only [decide_eq_false h3] at C3;clear h3;refine (C3 _ (by assumption)).mono ?_;rintro e w3 ⟨rfl,b3⟩;have B3:=bel_trans B2 b3;go_wp2_with fail
   go_ret
   exact ⟨ans14 ((decide_eq_false HN.out).symm.trans HA.out),B3⟩
  have K3:Hid (plM i):=h3;simp only [decide_eq_true h3] at C3;clear h3;refine (C3 _ (by assumption)).mono ?_;rintro e w3 ⟨rfl,b3⟩;have B3:=bel_trans B2 b3;have X3:=X2.below b3;have c3_5:w3.cell? ⟨w.heap.size,5,none⟩=some (.int .i64 j):=X3.cell 5 _ rfl;clear X2 B2 b3 C3;go_wp2_with fail
  have C4:=fun (W:World) (hW:Below w.heap.size w W)=>pisPlace14 j W
  by_cases h4:plM j
  case neg =>
   have HN:Hid (¬ (vdM (lv,ac,o,(k,i,j),r))):=fun h=>h4 (h.1.2.2.2.1.2)
   simp only [decide_eq_false h4] at C4;clear h4;refine (C4 _ (by assumption)).mono ?_;rintro e w4 ⟨rfl,b4⟩;have B4:=bel_trans B3 b4;go_wp2_with fail
   go_ret
   exact ⟨ans14 ((decide_eq_false HN.out).symm.trans HA.out),B4⟩
  have K4:Hid (plM j):=h4;simp only [decide_eq_true h4] at C4;clear h4;refine (C4 _ (by assumption)).mono ?_;rintro e w4 ⟨rfl,b4⟩;have B4:=bel_trans B3 b4;have X4:=X3.below b4;have c4_6:w4.cell? ⟨w.heap.size,6,none⟩=some (.slice ra r.length rc):=X4.cell 6 _ rfl;clear X3 B3 b4 C4;go_wp2_with fail
  have C5:=fun (W:World) (hW:Below w.heap.size w W)=>pallE14 128 r _ W (hR.below hW)
  by_cases h5:r.length≤128∧∀ x∈r,edM x
  case neg =>
   have HN:Hid (¬ (vdM (lv,ac,o,(k,i,j),r))):=fun h=>h5 (⟨h.1.2.2.2.2,h.2.2⟩)
   simp only [decide_eq_false h5] at C5;clear h5;refine (C5 _ (by assumption)).mono ?_;rintro e w5 ⟨rfl,b5⟩;have B5:=bel_trans B4 b5;go_wp2_with fail
   go_ret
   exact ⟨ans14 ((decide_eq_false HN.out).symm.trans HA.out),B5⟩
  have K5:Hid (r.length≤128∧∀ x∈r,edM x):=h5;simp only [decide_eq_true h5] at C5;clear h5;refine (C5 _ (by assumption)).mono ?_;rintro e w5 ⟨rfl,b5⟩;have B5:=bel_trans B4 b5;have X5:=X4.below b5;clear X4 B4 b5 C5;go_wp2_with fail
  go_ret
  exact ⟨ans14 ((decide_eq_true (show vdM (lv,ac,o,(k,i,j),r) from ⟨⟨K0.out,K1.out.1,K2.out,⟨K3.out,K4.out⟩,K5.out.1⟩,K1.out.2,K5.out.2⟩)).symm.trans HA.out),B5⟩
set_option maxHeartbeats 4000000 in
theorem pmayc14 (tn:List UInt8) (sq:Int) (pv rt:List UInt8) (ct lv k i j:Int) (ac:Bool) (oa:Option Addr) (oc:Nat) (o:List Int) (ra:Option Addr) (rc:Nat) (r:List Ed) (pa:Option Addr) (pc:Nat) (p:List Pf) (w:World) (hO:IsInts w (.slice oa o.length oc) o) (hR:IsEds w (.slice ra r.length rc) r) (hP:IsPfs w (.slice pa p.length pc) p):Calls Tryz.prog 33 #[.agg #[.string ⟨tn.toArray⟩,.int .i64 sq,.string ⟨pv.toArray⟩,.string ⟨rt.toArray⟩,.int .i64 ct,.int .i64 lv,.bool ac,.slice oa o.length oc,.int .i64 k,.int .i64 i,.int .i64 j,.slice ra r.length rc,.slice pa p.length pc]] w fun e w'=>e=.returned (.bool (decide (mayC (tn,sq,pv,rt,ct,(lv,ac,o,(k,i,j),r),p))))∧Below w.heap.size w w':=by
 have B0:=(Below.refl w.heap.size w).alloc (Nat.le_refl _) (.cells #[.string ⟨tn.toArray⟩,.int .i64 sq,.string ⟨pv.toArray⟩,.string ⟨rt.toArray⟩,.int .i64 ct,.int .i64 lv,.bool ac,.slice oa o.length oc,.int .i64 k,.int .i64 i,.int .i64 j,.slice ra r.length rc,.slice pa p.length pc] 30);have X0:=SBox.new w 30 #[.string ⟨tn.toArray⟩,.int .i64 sq,.string ⟨pv.toArray⟩,.string ⟨rt.toArray⟩,.int .i64 ct,.int .i64 lv,.bool ac,.slice oa o.length oc,.int .i64 k,.int .i64 i,.int .i64 j,.slice ra r.length rc,.slice pa p.length pc];obtain ⟨ans,hans⟩:∃ b,decide (mayC (tn,sq,pv,rt,ct,(lv,ac,o,(k,i,j),r),p))=b:=⟨_,rfl⟩;rw [hans];have HA:Hid (decide (mayC (tn,sq,pv,rt,ct,(lv,ac,o,(k,i,j),r),p))=ans):=hans;clear hans
 have c0_0:(w.alloc (.cells #[.string ⟨tn.toArray⟩,.int .i64 sq,.string ⟨pv.toArray⟩,.string ⟨rt.toArray⟩,.int .i64 ct,.int .i64 lv,.bool ac,.slice oa o.length oc,.int .i64 k,.int .i64 i,.int .i64 j,.slice ra r.length rc,.slice pa p.length pc] 30)).cell? ⟨w.heap.size,0,none⟩=some (.string ⟨tn.toArray⟩):=X0.cell 0 _ rfl;have HE:Hid (pv=[]∨pv≠[]):=Classical.em _;go_enter Tryz.func33,Tryz.ntmps33
 go_wp2_with fail
 have C1:=fun (W:World) (hW:Below w.heap.size w W)=>pwithin14 (tn.length:Int) 1 16 W
 by_cases h1:1≤(tn.length:Int)∧(tn.length:Int)≤16
 case neg =>
  have HN:Hid (¬ (mayC (tn,sq,pv,rt,ct,(lv,ac,o,(k,i,j),r),p))):=fun h=>h1 (⟨by have h9:1≤tn.length:=h.1.1.1;omega,by have h9:tn.length≤16:=h.1.1.2;omega⟩)
  simp only [decide_eq_false h1] at C1;clear h1;refine (C1 _ (by assumption)).mono ?_;rintro e w1 ⟨rfl,b1⟩;have B1:=bel_trans B0 b1;go_wp2_with fail
  go_ret
  exact ⟨ans14 ((decide_eq_false HN.out).symm.trans HA.out),B1⟩
 have K1:Hid (1≤(tn.length:Int)∧(tn.length:Int)≤16):=h1;simp only [decide_eq_true h1] at C1;clear h1;refine (C1 _ (by assumption)).mono ?_;rintro e w1 ⟨rfl,b1⟩;have B1:=bel_trans B0 b1;have X1:=X0.below b1;have c1_1:w1.cell? ⟨w.heap.size,1,none⟩=some (.int .i64 sq):=X1.cell 1 _ rfl;clear X0 B0 b1 C1;go_wp2_with fail
 have C2:=fun (W:World) (hW:Below w.heap.size w W)=>pwithin14 sq 1 1048576 W
 by_cases h2:1≤sq∧sq≤1048576
 case neg =>
  have HN:Hid (¬ (mayC (tn,sq,pv,rt,ct,(lv,ac,o,(k,i,j),r),p))):=fun h=>h2 (h.1.2.1)
  simp only [decide_eq_false h2] at C2;clear h2;refine (C2 _ (by assumption)).mono ?_;rintro e w2 ⟨rfl,b2⟩;have B2:=bel_trans B1 b2;go_wp2_with fail
  go_ret
  exact ⟨ans14 ((decide_eq_false HN.out).symm.trans HA.out),B2⟩
 have K2:Hid (1≤sq∧sq≤1048576):=h2;simp only [decide_eq_true h2] at C2;clear h2;refine (C2 _ (by assumption)).mono ?_;rintro e w2 ⟨rfl,b2⟩;have B2:=bel_trans B1 b2;have X2:=X1.below b2;have c2_2:w2.cell? ⟨w.heap.size,2,none⟩=some (.string ⟨pv.toArray⟩):=X2.cell 2 _ rfl;have c2_3:w2.cell? ⟨w.heap.size,3,none⟩=some (.string ⟨rt.toArray⟩):=X2.cell 3 _ rfl;clear X1 B1 b2 C2
 by_cases hp:pv=[]
 ·have e0:pv.isEmpty=true:=by subst hp;rfl
  have KP:Hid (pv.length=0∨pv.length=32):=by subst hp;exact .inl rfl
  clear hp HE;go_wp2_with fail
  have C3:=fun (W:World) (hW:Below w.heap.size w W)=>pisSum14 rt W
  by_cases h3:rt.length=32
  case neg =>
   have HN:Hid (¬ (mayC (tn,sq,pv,rt,ct,(lv,ac,o,(k,i,j),r),p))):=fun h=>h3 (h.1.2.2.2.1)
   simp only [decide_eq_false h3] at C3;clear h3;refine (C3 _ (by assumption)).mono ?_;rintro e w3 ⟨rfl,b3⟩;have B3:=bel_trans B2 b3;go_wp2_with fail
   go_ret
   exact ⟨ans14 ((decide_eq_false HN.out).symm.trans HA.out),B3⟩
  have K3:Hid (rt.length=32):=h3;simp only [decide_eq_true h3] at C3;clear h3;refine (C3 _ (by assumption)).mono ?_;rintro e w3 ⟨rfl,b3⟩;have B3:=bel_trans B2 b3;have X3:=X2.below b3;have c3_4:w3.cell? ⟨w.heap.size,4,none⟩=some (.int .i64 ct):=X3.cell 4 _ rfl;clear X2 B2 b3 C3;go_wp2_with fail
  have C4:=fun (W:World) (hW:Below w.heap.size w W)=>pwithin14 ct 0 256 W
  by_cases h4:0≤ct∧ct≤256
  case neg =>
   have HN:Hid (¬ (mayC (tn,sq,pv,rt,ct,(lv,ac,o,(k,i,j),r),p))):=fun h=>h4 (h.1.2.2.2.2)
   simp only [decide_eq_false h4] at C4;clear h4;refine (C4 _ (by assumption)).mono ?_;rintro e w4 ⟨rfl,b4⟩;have B4:=bel_trans B3 b4;go_wp2_with fail
   go_ret
   exact ⟨ans14 ((decide_eq_false HN.out).symm.trans HA.out),B4⟩
  have K4:Hid (0≤ct∧ct≤256):=h4;simp only [decide_eq_true h4] at C4;clear h4;refine (C4 _ (by assumption)).mono ?_;rintro e w4 ⟨rfl,b4⟩;have B4:=bel_trans B3 b4;have X4:=X3.below b4;have c4_5:w4.cell? ⟨w.heap.size,5,none⟩=some (.int .i64 lv):=X4.cell 5 _ rfl;have c4_6:w4.cell? ⟨w.heap.size,6,none⟩=some (.bool ac):=X4.cell 6 _ rfl;have c4_7:w4.cell? ⟨w.heap.size,7,none⟩=some (.slice oa o.length oc):=X4.cell 7 _ rfl;have c4_8:w4.cell? ⟨w.heap.size,8,none⟩=some (.int .i64 k):=X4.cell 8 _ rfl;have c4_9:w4.cell? ⟨w.heap.size,9,none⟩=some (.int .i64 i):=X4.cell 9 _ rfl;have c4_10:w4.cell? ⟨w.heap.size,10,none⟩=some (.int .i64 j):=X4.cell 10 _ rfl;have c4_11:w4.cell? ⟨w.heap.size,11,none⟩=some (.slice ra r.length rc):=X4.cell 11 _ rfl
  clear X3 B3 b4 C4;go_wp2_with fail
  have C5:=fun (W:World) (hW:Below w.heap.size w W)=>pverdictMay14 lv k i j ac oa oc o ra rc r W (hO.below hW) (hR.below hW)
  by_cases h5:vdM (lv,ac,o,(k,i,j),r)
  case neg =>
   have HN:Hid (¬ (mayC (tn,sq,pv,rt,ct,(lv,ac,o,(k,i,j),r),p))):=fun h=>h5 (h.2.1)
   simp only [decide_eq_false h5] at C5;clear h5;refine (C5 _ (by assumption)).mono ?_;rintro e w5 ⟨rfl,b5⟩;have B5:=bel_trans B4 b5;go_wp2_with fail
   go_ret
   exact ⟨ans14 ((decide_eq_false HN.out).symm.trans HA.out),B5⟩
  have K5:Hid (vdM (lv,ac,o,(k,i,j),r)):=h5;simp only [decide_eq_true h5] at C5;clear h5;refine (C5 _ (by assumption)).mono ?_;rintro e w5 ⟨rfl,b5⟩;have B5:=bel_trans B4 b5;have X5:=X4.below b5;have c5_12:w5.cell? ⟨w.heap.size,12,none⟩=some (.slice pa p.length pc):=X5.cell 12 _ rfl;clear X4 B4 b5 C5;go_wp2_with fail
  have C6:=fun (W:World) (hW:Below w.heap.size w W)=>pallP14 256 p _ W (hP.below hW)
  by_cases h6:p.length≤256∧∀ x∈p,pfM x
  case neg =>
   have HN:Hid (¬ (mayC (tn,sq,pv,rt,ct,(lv,ac,o,(k,i,j),r),p))):=fun h=>h6 (⟨h.2.2.1,h.2.2.2⟩)
   simp only [decide_eq_false h6] at C6;clear h6;refine (C6 _ (by assumption)).mono ?_;rintro e w6 ⟨rfl,b6⟩;have B6:=bel_trans B5 b6;go_wp2_with fail
   go_ret
   exact ⟨ans14 ((decide_eq_false HN.out).symm.trans HA.out),B6⟩
  have K6:Hid (p.length≤256∧∀ x∈p,pfM x):=h6;simp only [decide_eq_true h6] at C6;clear h6;refine (C6 _ (by assumption)).mono ?_;rintro e w6 ⟨rfl,b6⟩;have B6:=bel_trans B5 b6;have X6:=X5.below b6;clear X5 B5 b6 C6;go_wp2_with fail
  go_ret
  exact ⟨ans14 ((decide_eq_true (show mayC (tn,sq,pv,rt,ct,(lv,ac,o,(k,i,j),r),p) from ⟨⟨⟨by show 1≤tn.length;have:=K1.out.1;omega,by show tn.length≤16;have:=K1.out.2;omega⟩,K2.out,KP.out,K3.out,K4.out⟩,K5.out,K6.out.1,K6.out.2⟩)).symm.trans HA.out),B6⟩
 ·have e0:pv.isEmpty=false:=by cases pv with | nil=>exact absurd rfl hp | cons a b=>rfl
  have HP0:Hid (pv≠[]):=hp;clear hp HE;go_wp2_with fail
  have C3:=fun (W:World) (hW:Below w.heap.size w W)=>pisSum14 pv W
  by_cases h3:pv.length=32
  case neg =>
   have HN:Hid (¬ (mayC (tn,sq,pv,rt,ct,(lv,ac,o,(k,i,j),r),p))):=fun h=>h3 (by rcases h.1.2.2.1 with h9 | h9;exact absurd (List.length_eq_zero_iff.1 h9) HP0.out;exact h9)
   simp only [decide_eq_false h3] at C3;clear h3;refine (C3 _ (by assumption)).mono ?_;rintro e w3 ⟨rfl,b3⟩;have B3:=bel_trans B2 b3;go_wp2_with fail
   go_ret
   exact ⟨ans14 ((decide_eq_false HN.out).symm.trans HA.out),B3⟩
  have K3:Hid (pv.length=32):=h3;simp only [decide_eq_true h3] at C3;clear h3;refine (C3 _ (by assumption)).mono ?_;rintro e w3 ⟨rfl,b3⟩;have B3:=bel_trans B2 b3;have X3:=X2.below b3;have c3_3:w3.cell? ⟨w.heap.size,3,none⟩=some (.string ⟨rt.toArray⟩):=X3.cell 3 _ rfl;clear X2 B2 b3 C3;go_wp2_with fail
  have C4:=fun (W:World) (hW:Below w.heap.size w W)=>pisSum14 rt W
  by_cases h4:rt.length=32
  case neg =>
   have HN:Hid (¬ (mayC (tn,sq,pv,rt,ct,(lv,ac,o,(k,i,j),r),p))):=fun h=>h4 (h.1.2.2.2.1)
   simp only [decide_eq_false h4] at C4;clear h4;refine (C4 _ (by assumption)).mono ?_;rintro e w4 ⟨rfl,b4⟩;have B4:=bel_trans B3 b4;go_wp2_with fail
   go_ret
   exact ⟨ans14 ((decide_eq_false HN.out).symm.trans HA.out),B4⟩
  have K4:Hid (rt.length=32):=h4;simp only [decide_eq_true h4] at C4;clear h4;refine (C4 _ (by assumption)).mono ?_;rintro e w4 ⟨rfl,b4⟩;have B4:=bel_trans B3 b4;have X4:=X3.below b4;have c4_4:w4.cell? ⟨w.heap.size,4,none⟩=some (.int .i64 ct):=X4.cell 4 _ rfl;clear X3 B3 b4 C4;go_wp2_with fail
  have C5:=fun (W:World) (hW:Below w.heap.size w W)=>pwithin14 ct 0 256 W
  by_cases h5:0≤ct∧ct≤256
  case neg =>
   have HN:Hid (¬ (mayC (tn,sq,pv,rt,ct,(lv,ac,o,(k,i,j),r),p))):=fun h=>h5 (h.1.2.2.2.2)
   simp only [decide_eq_false h5] at C5;clear h5;refine (C5 _ (by assumption)).mono ?_;rintro e w5 ⟨rfl,b5⟩;have B5:=bel_trans B4 b5;go_wp2_with fail
   go_ret
   exact ⟨ans14 ((decide_eq_false HN.out).symm.trans HA.out),B5⟩
  have K5:Hid (0≤ct∧ct≤256):=h5;simp only [decide_eq_true h5] at C5;clear h5;refine (C5 _ (by assumption)).mono ?_;rintro e w5 ⟨rfl,b5⟩;have B5:=bel_trans B4 b5;have X5:=X4.below b5;have c5_5:w5.cell? ⟨w.heap.size,5,none⟩=some (.int .i64 lv):=X5.cell 5 _ rfl;have c5_6:w5.cell? ⟨w.heap.size,6,none⟩=some (.bool ac):=X5.cell 6 _ rfl;have c5_7:w5.cell? ⟨w.heap.size,7,none⟩=some (.slice oa o.length oc):=X5.cell 7 _ rfl;have c5_8:w5.cell? ⟨w.heap.size,8,none⟩=some (.int .i64 k):=X5.cell 8 _ rfl;have c5_9:w5.cell? ⟨w.heap.size,9,none⟩=some (.int .i64 i):=X5.cell 9 _ rfl;have c5_10:w5.cell? ⟨w.heap.size,10,none⟩=some (.int .i64 j):=X5.cell 10 _ rfl;have c5_11:w5.cell? ⟨w.heap.size,11,none⟩=some (.slice ra r.length rc):=X5.cell 11 _ rfl
  clear X4 B4 b5 C5;go_wp2_with fail
  have C6:=fun (W:World) (hW:Below w.heap.size w W)=>pverdictMay14 lv k i j ac oa oc o ra rc r W (hO.below hW) (hR.below hW)
  by_cases h6:vdM (lv,ac,o,(k,i,j),r)
  case neg =>
   have HN:Hid (¬ (mayC (tn,sq,pv,rt,ct,(lv,ac,o,(k,i,j),r),p))):=fun h=>h6 (h.2.1)
   simp only [decide_eq_false h6] at C6;clear h6;refine (C6 _ (by assumption)).mono ?_;rintro e w6 ⟨rfl,b6⟩;have B6:=bel_trans B5 b6;go_wp2_with fail
   go_ret
   exact ⟨ans14 ((decide_eq_false HN.out).symm.trans HA.out),B6⟩
  have K6:Hid (vdM (lv,ac,o,(k,i,j),r)):=h6;simp only [decide_eq_true h6] at C6;clear h6;refine (C6 _ (by assumption)).mono ?_;rintro e w6 ⟨rfl,b6⟩;have B6:=bel_trans B5 b6;have X6:=X5.below b6;have c6_12:w6.cell? ⟨w.heap.size,12,none⟩=some (.slice pa p.length pc):=X6.cell 12 _ rfl;clear X5 B5 b6 C6;go_wp2_with fail
  have C7:=fun (W:World) (hW:Below w.heap.size w W)=>pallP14 256 p _ W (hP.below hW)
  by_cases h7:p.length≤256∧∀ x∈p,pfM x
  case neg =>
   have HN:Hid (¬ (mayC (tn,sq,pv,rt,ct,(lv,ac,o,(k,i,j),r),p))):=fun h=>h7 (⟨h.2.2.1,h.2.2.2⟩)
   simp only [decide_eq_false h7] at C7;clear h7;refine (C7 _ (by assumption)).mono ?_;rintro e w7 ⟨rfl,b7⟩;have B7:=bel_trans B6 b7;go_wp2_with fail
   go_ret
   exact ⟨ans14 ((decide_eq_false HN.out).symm.trans HA.out),B7⟩
  have K7:Hid (p.length≤256∧∀ x∈p,pfM x):=h7;simp only [decide_eq_true h7] at C7;clear h7;refine (C7 _ (by assumption)).mono ?_;rintro e w7 ⟨rfl,b7⟩;have B7:=bel_trans B6 b7;have X7:=X6.below b7;clear X6 B6 b7 C7;go_wp2_with fail
  go_ret
  exact ⟨ans14 ((decide_eq_true (show mayC (tn,sq,pv,rt,ct,(lv,ac,o,(k,i,j),r),p) from ⟨⟨⟨by show 1≤tn.length;have:=K1.out.1;omega,by show tn.length≤16;have:=K1.out.2;omega⟩,K2.out,.inr K3.out,K4.out,K5.out⟩,K6.out,K7.out.1,K7.out.2⟩)).symm.trans HA.out),B7⟩
end Go.Proofs.YthamoeekiglphaaGreatDoor
