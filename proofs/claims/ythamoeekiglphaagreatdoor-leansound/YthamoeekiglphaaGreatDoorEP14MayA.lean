/-
  What cert.May asks of edges, proofs and rows of them.
-/
import Derived.Test.YthamoeekiglphaaGreatDoorEL0f
namespace Go.Proofs.YthamoeekiglphaaGreatDoor
set_option maxRecDepth 100000
open Go.RowKit
set_option linter.unusedVariables false
attribute [local go_sem] ba_size
theorem ans14 {a b:Bool} (h:a=b):Ending.returned (.bool a)=Ending.returned (.bool b):=by rw [h]
theorem pwithin14 (n a b:Int) (w:World):Calls Tryz.prog 68 #[.int .i64 n,.int .i64 a,.int .i64 b] w fun e w'=>e=.returned (.bool (decide (a≤n∧n≤b)))∧Below w.heap.size w w':=by
 by_cases h1:a≤n
 ·by_cases h2:n≤b
  ·rw [decide_eq_true (show a≤n∧n≤b from ⟨h1,h2⟩)]
   go_enter Tryz.func68,Tryz.ntmps68
   go_wp2_with fail
   go_ret
   exact ⟨rfl,Below.refl _ _⟩
  ·rw [decide_eq_false (show ¬ (a≤n∧n≤b) from fun h=>h2 h.2)]
   go_enter Tryz.func68,Tryz.ntmps68
   go_wp2_with fail
   go_ret
   exact ⟨rfl,Below.refl _ _⟩
 ·rw [decide_eq_false (show ¬ (a≤n∧n≤b) from fun h=>h1 h.1)]
  go_enter Tryz.func68,Tryz.ntmps68
  go_wp2_with fail
  go_ret
  exact ⟨rfl,Below.refl _ _⟩
theorem pisTxn14 (n:Int) (w:World):Calls Tryz.prog 103 #[.int .i64 n] w fun e w'=>e=.returned (.bool (decide (txM n)))∧Below w.heap.size w w':=by
 go_enter Tryz.func103,Tryz.ntmps103
 go_wp2_with fail
 refine (pwithin14 n 1 32 w).mono ?_;rintro e w1 ⟨rfl,b1⟩;go_wp2_with fail
 go_ret
 exact ⟨ans14 (show (decide (1≤n)&&decide (n≤32))=_ by rw [Bool.decide_and]),b1⟩
theorem pisPlace14 (n:Int) (w:World):Calls Tryz.prog 104 #[.int .i64 n] w fun e w'=>e=.returned (.bool (decide (plM n)))∧Below w.heap.size w w':=by
 go_enter Tryz.func104,Tryz.ntmps104
 go_wp2_with fail
 refine (pwithin14 n 0 255 w).mono ?_;rintro e w1 ⟨rfl,b1⟩;go_wp2_with fail
 go_ret
 exact ⟨ans14 (show (decide (0≤n)&&decide (n≤255))=_ by rw [Bool.decide_and]),b1⟩
theorem pisSum14 (s:List UInt8) (w:World):Calls Tryz.prog 69 #[.string ⟨s.toArray⟩] w fun e w'=>e=.returned (.bool (decide (s.length=32)))∧Below w.heap.size w w':=by
 by_cases h1:s.length=32
 ·rw [decide_eq_true h1]
  have h2:((s.length:Int)==32)=true:=by simp;omega
  go_enter Tryz.func69,Tryz.ntmps69
  go_wp2_with fail
  go_ret
  exact ⟨rfl,Below.refl _ _⟩
 ·rw [decide_eq_false h1]
  have h2:((s.length:Int)==32)=false:=by simp;omega
  go_enter Tryz.func69,Tryz.ntmps69
  go_wp2_with fail
  go_ret
  exact ⟨rfl,Below.refl _ _⟩
theorem all_next14 {α:Type} {l:List α} {p:α→Prop} {k:Nat} (hk:k < l.length) (h:∀ x∈l.take k,p x) (hx:p l[k]):∀ x∈l.take (k+1),p x:=by
 intro x hm;rw [List.take_succ_eq_append_getElem hk] at hm;rcases List.mem_append.1 hm with h1 | h1
 ·exact h x h1
 ·simp at h1;subst h1;exact hx
set_option maxHeartbeats 2000000 in
theorem pedgeMay14 (e0 e1 e2 e3 e4:Int) (w:World):Calls Tryz.prog 106 #[.agg #[.int .i64 e0,.int .i64 e1,.int .i64 e2,.int .i64 e3,.int .i64 e4]] w fun e w'=>e=.returned (.bool (decide (edM (e0,e1,e2,e3,e4))))∧Below w.heap.size w w':=by
 have B0:=(Below.refl w.heap.size w).alloc (Nat.le_refl _) (.cells #[.int .i64 e0,.int .i64 e1,.int .i64 e2,.int .i64 e3,.int .i64 e4] 32);have X0:=SBox.new w 32 #[.int .i64 e0,.int .i64 e1,.int .i64 e2,.int .i64 e3,.int .i64 e4];have c0_0:(w.alloc (.cells #[.int .i64 e0,.int .i64 e1,.int .i64 e2,.int .i64 e3,.int .i64 e4] 32)).cell? ⟨w.heap.size,0,none⟩=some (.int .i64 e0):=X0.cell 0 _ rfl;obtain ⟨ans,hans⟩:∃ b,decide (edM (e0,e1,e2,e3,e4))=b:=⟨_,rfl⟩;rw [hans];have HA:Hid (decide (edM (e0,e1,e2,e3,e4))=ans):=hans;clear hans;go_enter Tryz.func106,Tryz.ntmps106
 go_wp2_with fail
 have C1:=fun (W:World) (hW:Below w.heap.size w W)=>pwithin14 e0 1 3 W
 by_cases h1:1≤e0∧e0≤3
 case neg =>
  have HN:Hid (¬ (edM (e0,e1,e2,e3,e4))):=fun h=>h1 (h.1)
  simp only [decide_eq_false h1] at C1;clear h1;refine (C1 _ (by assumption)).mono ?_;rintro e w1 ⟨rfl,b1⟩;have B1:=bel_trans B0 b1;go_wp2_with fail
  go_ret
  exact ⟨ans14 ((decide_eq_false HN.out).symm.trans HA.out),B1⟩
 have K1:Hid (1≤e0∧e0≤3):=h1;simp only [decide_eq_true h1] at C1;clear h1;refine (C1 _ (by assumption)).mono ?_;rintro e w1 ⟨rfl,b1⟩;have B1:=bel_trans B0 b1;have X1:=X0.below b1;have c1_1:w1.cell? ⟨w.heap.size,1,none⟩=some (.int .i64 e1):=X1.cell 1 _ rfl;clear X0 B0 b1 C1;go_wp2_with fail
 have C2:=fun (W:World) (hW:Below w.heap.size w W)=>pisTxn14 e1 W
 by_cases h2:txM e1
 case neg =>
  have HN:Hid (¬ (edM (e0,e1,e2,e3,e4))):=fun h=>h2 (h.2.1.1)
  simp only [decide_eq_false h2] at C2;clear h2;refine (C2 _ (by assumption)).mono ?_;rintro e w2 ⟨rfl,b2⟩;have B2:=bel_trans B1 b2;go_wp2_with fail
  go_ret
  exact ⟨ans14 ((decide_eq_false HN.out).symm.trans HA.out),B2⟩
 have K2:Hid (txM e1):=h2;simp only [decide_eq_true h2] at C2;clear h2;refine (C2 _ (by assumption)).mono ?_;rintro e w2 ⟨rfl,b2⟩;have B2:=bel_trans B1 b2;have X2:=X1.below b2;have c2_2:w2.cell? ⟨w.heap.size,2,none⟩=some (.int .i64 e2):=X2.cell 2 _ rfl;clear X1 B1 b2 C2;go_wp2_with fail
 have C3:=fun (W:World) (hW:Below w.heap.size w W)=>pisTxn14 e2 W
 by_cases h3:txM e2
 case neg =>
  have HN:Hid (¬ (edM (e0,e1,e2,e3,e4))):=fun h=>h3 (h.2.1.2)
  simp only [decide_eq_false h3] at C3;clear h3;refine (C3 _ (by assumption)).mono ?_;rintro e w3 ⟨rfl,b3⟩;have B3:=bel_trans B2 b3;go_wp2_with fail
  go_ret
  exact ⟨ans14 ((decide_eq_false HN.out).symm.trans HA.out),B3⟩
 have K3:Hid (txM e2):=h3;simp only [decide_eq_true h3] at C3;clear h3;refine (C3 _ (by assumption)).mono ?_;rintro e w3 ⟨rfl,b3⟩;have B3:=bel_trans B2 b3;have X3:=X2.below b3;have c3_3:w3.cell? ⟨w.heap.size,3,none⟩=some (.int .i64 e3):=X3.cell 3 _ rfl;clear X2 B2 b3 C3;go_wp2_with fail
 have C4:=fun (W:World) (hW:Below w.heap.size w W)=>pisPlace14 e3 W
 by_cases h4:plM e3
 case neg =>
  have HN:Hid (¬ (edM (e0,e1,e2,e3,e4))):=fun h=>h4 (h.2.2.1)
  simp only [decide_eq_false h4] at C4;clear h4;refine (C4 _ (by assumption)).mono ?_;rintro e w4 ⟨rfl,b4⟩;have B4:=bel_trans B3 b4;go_wp2_with fail
  go_ret
  exact ⟨ans14 ((decide_eq_false HN.out).symm.trans HA.out),B4⟩
 have K4:Hid (plM e3):=h4;simp only [decide_eq_true h4] at C4;clear h4;refine (C4 _ (by assumption)).mono ?_;rintro e w4 ⟨rfl,b4⟩;have B4:=bel_trans B3 b4;have X4:=X3.below b4;have c4_4:w4.cell? ⟨w.heap.size,4,none⟩=some (.int .i64 e4):=X4.cell 4 _ rfl;clear X3 B3 b4 C4;go_wp2_with fail
 have C5:=fun (W:World) (hW:Below w.heap.size w W)=>pisPlace14 e4 W
 by_cases h5:plM e4
 case neg =>
  have HN:Hid (¬ (edM (e0,e1,e2,e3,e4))):=fun h=>h5 (h.2.2.2)
  simp only [decide_eq_false h5] at C5;clear h5;refine (C5 _ (by assumption)).mono ?_;rintro e w5 ⟨rfl,b5⟩;have B5:=bel_trans B4 b5;go_wp2_with fail
  go_ret
  exact ⟨ans14 ((decide_eq_false HN.out).symm.trans HA.out),B5⟩
 have K5:Hid (plM e4):=h5;simp only [decide_eq_true h5] at C5;clear h5;refine (C5 _ (by assumption)).mono ?_;rintro e w5 ⟨rfl,b5⟩;have B5:=bel_trans B4 b5;have X5:=X4.below b5;clear X4 B4 b5 C5;go_wp2_with fail
 go_ret
 exact ⟨ans14 ((decide_eq_true (show edM (e0,e1,e2,e3,e4) from ⟨K1.out,⟨K2.out,K3.out⟩,K4.out,K5.out⟩)).symm.trans HA.out),B5⟩
set_option maxHeartbeats 2000000 in
theorem pallI14 (m:Nat) (l:List Int) (v:Value) (w:World) (hT:IsInts w v l):Calls Tryz.prog 102 #[v,.int .i64 m,.func (.func 103) #[] #[]] w fun e w'=>e=.returned (.bool (decide (l.length≤m∧∀ x∈l,txM x)))∧Below w.heap.size w w':=by
 obtain ⟨a,cap,rfl,h1,h2,h3,HC⟩:=hT.some_at;obtain ⟨n,hn⟩:∃ n,l.length=n:=⟨_,rfl⟩;have HN:Hid (l.length=n):=hn;rw [hn] at h1 h3 ⊢;clear hn
 by_cases hbig:n≤m
 case neg =>
  rw [decide_eq_false (show ¬ (n≤m∧∀ x∈l,txM x) from fun h=>hbig h.1)];have j:(m:Int) < (n:Int):=by omega
  go_enter Tryz.func102,Tryz.ntmps102
  go_wp2_with fail
  go_ret
  exact ⟨rfl,Below.refl _ _⟩
 have j:¬ (m:Int) < (n:Int):=by omega
 obtain ⟨ans,hans⟩:∃ b,decide (n≤m∧∀ x∈l,txM x)=b:=⟨_,rfl⟩;rw [hans];have HQ:Hid (decide (n≤m∧∀ x∈l,txM x)=ans):=hans;clear hans;go_enter Tryz.func102,Tryz.ntmps102
 go_wp2_with fail
 go_loopw [15] (fun i wr=>∃ (k:Nat),k≤n∧i=.int .i64 k∧Hid (∀ x∈l.take k,txM x)∧Below w.heap.size w wr) (fun i _=>n - (RowKit.intOf i).toNat)
 case atStart=>exact ⟨0,Nat.zero_le _,rfl,(by intro x hx;simp at hx),Below.refl _ _⟩
 case round =>
  obtain ⟨k,hk,rfl,HA,hbw⟩:=hrel
  by_cases hlt:k < n
  ·have hk1:k < l.length:=by have:=HN.out;omega
   obtain ⟨bb,off,rfl,hblt,hcell⟩:=HC.out k hk1;have q0:=(hbw.cell (p:=⟨bb,off+k*1+0,none⟩) hblt).trans (hcell 0 _ rfl);simp only [Nat.mul_one,Nat.add_zero] at q0;obtain ⟨y,hy⟩:∃ y,l[k]=y:=⟨_,rfl⟩;have HY:Hid (l[k]=y):=hy;rw [hy] at q0;clear hcell hy;have C:=fun W=>pisTxn14 y W
   by_cases hx:txM y
   case neg =>
    have HE:Hid (¬ (n≤m∧∀ x∈l,txM x)):=fun h=>hx (by have h9:=h.2 l[k] (List.getElem_mem hk1);rw [← HY.out];exact h9)
    simp only [decide_eq_false hx] at C;clear hx;go_wp2_with fail
    refine (C _).mono ?_;rintro e w3 ⟨rfl,b3⟩;go_wp2_with fail
    go_ret
    exact ⟨ans14 ((decide_eq_false HE.out).symm.trans HQ.out),bel_trans hbw b3⟩
   have HA':Hid (∀ x∈l.take (k+1),txM x):=all_next14 hk1 HA.out (by rw [HY.out];exact hx);simp only [decide_eq_true hx] at C;clear hx;go_wp2_with fail
   refine (C _).mono ?_;rintro e w3 ⟨rfl,b3⟩;go_wp2_with fail
   go_roundw
   case rel=>exact ⟨k+1,by omega,by first | go_num | simp,HA',bel_trans hbw b3⟩
   case measure=>simp [RowKit.intOf];omega
  ·obtain rfl:k=n:=by omega
   have HE:Hid (k≤m∧∀ x∈l,txM x):=⟨hbig,by have:=HA.out;rwa [List.take_of_length_le (by have:=HN.out;omega)] at this⟩;go_wp2_with fail
   go_ret
   exact ⟨ans14 ((decide_eq_true HE.out).symm.trans HQ.out),hbw⟩
set_option maxHeartbeats 2000000 in
theorem pallT14 (m:Nat) (l:List (List UInt8)) (v:Value) (w:World) (hT:IsTxt w v l):Calls Tryz.prog 107 #[v,.int .i64 m,.func (.func 69) #[] #[]] w fun e w'=>e=.returned (.bool (decide (l.length≤m∧∀ x∈l,List.length x=32)))∧Below w.heap.size w w':=by
 obtain ⟨a,cap,rfl,h1,h2,h3,HC⟩:=hT.some_at;obtain ⟨n,hn⟩:∃ n,l.length=n:=⟨_,rfl⟩;have HN:Hid (l.length=n):=hn;rw [hn] at h1 h3 ⊢;clear hn
 by_cases hbig:n≤m
 case neg =>
  rw [decide_eq_false (show ¬ (n≤m∧∀ x∈l,List.length x=32) from fun h=>hbig h.1)];have j:(m:Int) < (n:Int):=by omega
  go_enter Tryz.func107,Tryz.ntmps107
  go_wp2_with fail
  go_ret
  exact ⟨rfl,Below.refl _ _⟩
 have j:¬ (m:Int) < (n:Int):=by omega
 obtain ⟨ans,hans⟩:∃ b,decide (n≤m∧∀ x∈l,List.length x=32)=b:=⟨_,rfl⟩;rw [hans];have HQ:Hid (decide (n≤m∧∀ x∈l,List.length x=32)=ans):=hans;clear hans;go_enter Tryz.func107,Tryz.ntmps107
 go_wp2_with fail
 go_loopw [15] (fun i wr=>∃ (k:Nat),k≤n∧i=.int .i64 k∧Hid (∀ x∈l.take k,List.length x=32)∧Below w.heap.size w wr) (fun i _=>n - (RowKit.intOf i).toNat)
 case atStart=>exact ⟨0,Nat.zero_le _,rfl,(by intro x hx;simp at hx),Below.refl _ _⟩
 case round =>
  obtain ⟨k,hk,rfl,HA,hbw⟩:=hrel
  by_cases hlt:k < n
  ·have hk1:k < l.length:=by have:=HN.out;omega
   obtain ⟨bb,off,rfl,hblt,hcell⟩:=HC.out k hk1;have q0:=(hbw.cell (p:=⟨bb,off+k,none⟩) hblt).trans hcell;obtain ⟨y,hy⟩:∃ y,l[k]=y:=⟨_,rfl⟩;have HY:Hid (l[k]=y):=hy;rw [hy] at q0;clear hcell hy;have C:=fun W=>pisSum14 y W
   by_cases hx:y.length=32
   case neg =>
    have HE:Hid (¬ (n≤m∧∀ x∈l,List.length x=32)):=fun h=>hx (by have h9:=h.2 l[k] (List.getElem_mem hk1);rw [← HY.out];exact h9)
    simp only [decide_eq_false hx] at C;clear hx;go_wp2_with fail
    refine (C _).mono ?_;rintro e w3 ⟨rfl,b3⟩;go_wp2_with fail
    go_ret
    exact ⟨ans14 ((decide_eq_false HE.out).symm.trans HQ.out),bel_trans hbw b3⟩
   have HA':Hid (∀ x∈l.take (k+1),List.length x=32):=all_next14 hk1 HA.out (by rw [HY.out];exact hx);simp only [decide_eq_true hx] at C;clear hx;go_wp2_with fail
   refine (C _).mono ?_;rintro e w3 ⟨rfl,b3⟩;go_wp2_with fail
   go_roundw
   case rel=>exact ⟨k+1,by omega,by first | go_num | simp,HA',bel_trans hbw b3⟩
   case measure=>simp [RowKit.intOf];omega
  ·obtain rfl:k=n:=by omega
   have HE:Hid (k≤m∧∀ x∈l,List.length x=32):=⟨hbig,by have:=HA.out;rwa [List.take_of_length_le (by have:=HN.out;omega)] at this⟩;go_wp2_with fail
   go_ret
   exact ⟨ans14 ((decide_eq_true HE.out).symm.trans HQ.out),hbw⟩
set_option maxHeartbeats 2000000 in
theorem pallE14 (m:Nat) (l:List Ed) (v:Value) (w:World) (hT:IsEds w v l):Calls Tryz.prog 105 #[v,.int .i64 m,.func (.func 106) #[] #[]] w fun e w'=>e=.returned (.bool (decide (l.length≤m∧∀ x∈l,edM x)))∧Below w.heap.size w w':=by
 obtain ⟨a,cap,rfl,h1,h2,h3,HC⟩:=hT.some_at;obtain ⟨n,hn⟩:∃ n,l.length=n:=⟨_,rfl⟩;have HN:Hid (l.length=n):=hn;rw [hn] at h1 h3 ⊢;clear hn
 by_cases hbig:n≤m
 case neg =>
  rw [decide_eq_false (show ¬ (n≤m∧∀ x∈l,edM x) from fun h=>hbig h.1)];have j:(m:Int) < (n:Int):=by omega
  go_enter Tryz.func105,Tryz.ntmps105
  go_wp2_with fail
  go_ret
  exact ⟨rfl,Below.refl _ _⟩
 have j:¬ (m:Int) < (n:Int):=by omega
 obtain ⟨ans,hans⟩:∃ b,decide (n≤m∧∀ x∈l,edM x)=b:=⟨_,rfl⟩;rw [hans];have HQ:Hid (decide (n≤m∧∀ x∈l,edM x)=ans):=hans;clear hans;go_enter Tryz.func105,Tryz.ntmps105
 go_wp2_with fail
 go_loopw [15] (fun i wr=>∃ (k:Nat),k≤n∧i=.int .i64 k∧Hid (∀ x∈l.take k,edM x)∧Below w.heap.size w wr) (fun i _=>n - (RowKit.intOf i).toNat)
 case atStart=>exact ⟨0,Nat.zero_le _,rfl,(by intro x hx;simp at hx),Below.refl _ _⟩
 case round =>
  obtain ⟨k,hk,rfl,HA,hbw⟩:=hrel
  by_cases hlt:k < n
  ·have hk1:k < l.length:=by have:=HN.out;omega
   obtain ⟨bb,off,rfl,hblt,hcell⟩:=HC.out k hk1;have q0:=(hbw.cell (p:=⟨bb,off+k*5,none⟩) hblt).trans (hcell 0 _ rfl);have q1:=(hbw.cell (p:=⟨bb,off+k*5+1,none⟩) hblt).trans (hcell 1 _ rfl);have q2:=(hbw.cell (p:=⟨bb,off+k*5+2,none⟩) hblt).trans (hcell 2 _ rfl);have q3:=(hbw.cell (p:=⟨bb,off+k*5+3,none⟩) hblt).trans (hcell 3 _ rfl);have q4:=(hbw.cell (p:=⟨bb,off+k*5+4,none⟩) hblt).trans (hcell 4 _ rfl);obtain ⟨y,hy⟩:∃ y,l[k]=y:=⟨_,rfl⟩;have HY:Hid (l[k]=y):=hy;rw [hy] at q0 q1 q2 q3 q4;clear hcell hy;obtain ⟨e0,e1,e2,e3,e4⟩:=y;simp only at q0 q1 q2 q3 q4;have C:=fun W=>pedgeMay14 e0 e1 e2 e3 e4 W
   by_cases hx:edM (e0,e1,e2,e3,e4)
   case neg =>
    have HE:Hid (¬ (n≤m∧∀ x∈l,edM x)):=fun h=>hx (by have h9:=h.2 l[k] (List.getElem_mem hk1);rw [← HY.out];exact h9)
    simp only [decide_eq_false hx] at C;clear hx;go_wp2_with fail
    refine (C _).mono ?_;rintro e w3 ⟨rfl,b3⟩;go_wp2_with fail
    go_ret
    exact ⟨ans14 ((decide_eq_false HE.out).symm.trans HQ.out),bel_trans (hbw.alloc hbw.size _) b3⟩
   have HA':Hid (∀ x∈l.take (k+1),edM x):=all_next14 hk1 HA.out (by rw [HY.out];exact hx);simp only [decide_eq_true hx] at C;clear hx;go_wp2_with fail
   refine (C _).mono ?_;rintro e w3 ⟨rfl,b3⟩;go_wp2_with fail
   go_roundw
   case rel=>exact ⟨k+1,by omega,by first | go_num | simp,HA',bel_trans (hbw.alloc hbw.size _) b3⟩
   case measure=>simp [RowKit.intOf];omega
  ·obtain rfl:k=n:=by omega
   have HE:Hid (k≤m∧∀ x∈l,edM x):=⟨hbig,by have:=HA.out;rwa [List.take_of_length_le (by have:=HN.out;omega)] at this⟩;go_wp2_with fail
   go_ret
   exact ⟨ans14 ((decide_eq_true HE.out).symm.trans HQ.out),hbw⟩
set_option maxHeartbeats 2000000 in
theorem pproofMay14 (p0 y0 y1:Int) (y2 y3:List UInt8) (ua:Option Addr) (uc:Nat) (l:List (List UInt8)) (w:World) (hT:IsTxt w (.slice ua l.length uc) l):Calls Tryz.prog 72 #[.agg #[.int .i64 p0,.int .i64 y0,.int .i64 y1,.string ⟨y2.toArray⟩,.string ⟨y3.toArray⟩,.slice ua l.length uc]] w fun e w'=>e=.returned (.bool (decide (pfM (p0,(y0,y1,y2,y3),l))))∧Below w.heap.size w w':=by
 have B0:=(Below.refl w.heap.size w).alloc (Nat.le_refl _) (.cells #[.int .i64 p0,.int .i64 y0,.int .i64 y1,.string ⟨y2.toArray⟩,.string ⟨y3.toArray⟩,.slice ua l.length uc] 55);have X0:=SBox.new w 55 #[.int .i64 p0,.int .i64 y0,.int .i64 y1,.string ⟨y2.toArray⟩,.string ⟨y3.toArray⟩,.slice ua l.length uc];have c0_0:(w.alloc (.cells #[.int .i64 p0,.int .i64 y0,.int .i64 y1,.string ⟨y2.toArray⟩,.string ⟨y3.toArray⟩,.slice ua l.length uc] 55)).cell? ⟨w.heap.size,0,none⟩=some (.int .i64 p0):=X0.cell 0 _ rfl;obtain ⟨ans,hans⟩:∃ b,decide (pfM (p0,(y0,y1,y2,y3),l))=b:=⟨_,rfl⟩;rw [hans];have HA:Hid (decide (pfM (p0,(y0,y1,y2,y3),l))=ans):=hans;clear hans;go_enter Tryz.func72,Tryz.ntmps72
 go_wp2_with fail
 have C1:=fun (W:World) (hW:Below w.heap.size w W)=>pisPlace14 p0 W
 by_cases h1:plM p0
 case neg =>
  have HN:Hid (¬ (pfM (p0,(y0,y1,y2,y3),l))):=fun h=>h1 (h.1.1)
  simp only [decide_eq_false h1] at C1;clear h1;refine (C1 _ (by assumption)).mono ?_;rintro e w1 ⟨rfl,b1⟩;have B1:=bel_trans B0 b1;go_wp2_with fail
  go_ret
  exact ⟨ans14 ((decide_eq_false HN.out).symm.trans HA.out),B1⟩
 have K1:Hid (plM p0):=h1;simp only [decide_eq_true h1] at C1;clear h1;refine (C1 _ (by assumption)).mono ?_;rintro e w1 ⟨rfl,b1⟩;have B1:=bel_trans B0 b1;have X1:=X0.below b1;have c1_1:w1.cell? ⟨w.heap.size,1,none⟩=some (.int .i64 y0):=X1.cell 1 _ rfl;have c1_2:w1.cell? ⟨w.heap.size,2,none⟩=some (.int .i64 y1):=X1.cell 2 _ rfl;have c1_3:w1.cell? ⟨w.heap.size,3,none⟩=some (.string ⟨y2.toArray⟩):=X1.cell 3 _ rfl;have c1_4:w1.cell? ⟨w.heap.size,4,none⟩=some (.string ⟨y3.toArray⟩):=X1.cell 4 _ rfl;clear X0 B0 b1 C1;go_wp2_with fail
 have C2:=fun (W:World) (hW:Below w.heap.size w W)=>pmay_any y0 y1 y2 y3 W
 by_cases h2:mayE (y0,y1,y2,y3)
 case neg =>
  have HN:Hid (¬ (pfM (p0,(y0,y1,y2,y3),l))):=fun h=>h2 (h.1.2)
  simp only [decide_eq_false h2] at C2;clear h2;refine (C2 _ (by assumption)).mono ?_;rintro e w2 ⟨rfl,b2⟩;have B2:=bel_trans B1 b2;go_wp2_with fail
  go_ret
  exact ⟨ans14 ((decide_eq_false HN.out).symm.trans HA.out),B2⟩
 have K2:Hid (mayE (y0,y1,y2,y3)):=h2;simp only [decide_eq_true h2] at C2;clear h2;refine (C2 _ (by assumption)).mono ?_;rintro e w2 ⟨rfl,b2⟩;have B2:=bel_trans B1 b2;have X2:=X1.below b2;have c2_5:w2.cell? ⟨w.heap.size,5,none⟩=some (.slice ua l.length uc):=X2.cell 5 _ rfl;clear X1 B1 b2 C2;go_wp2_with fail
 have C3:=fun (W:World) (hW:Below w.heap.size w W)=>pallT14 12 l _ W (hT.below hW)
 by_cases h3:l.length≤12∧∀ x∈l,List.length x=32
 case neg =>
  have HN:Hid (¬ (pfM (p0,(y0,y1,y2,y3),l))):=fun h=>h3 (⟨h.2.1,h.2.2⟩)
  simp only [decide_eq_false h3] at C3;clear h3;refine (C3 _ (by assumption)).mono ?_;rintro e w3 ⟨rfl,b3⟩;have B3:=bel_trans B2 b3;go_wp2_with fail
  go_ret
  exact ⟨ans14 ((decide_eq_false HN.out).symm.trans HA.out),B3⟩
 have K3:Hid (l.length≤12∧∀ x∈l,List.length x=32):=h3;simp only [decide_eq_true h3] at C3;clear h3;refine (C3 _ (by assumption)).mono ?_;rintro e w3 ⟨rfl,b3⟩;have B3:=bel_trans B2 b3;have X3:=X2.below b3;clear X2 B2 b3 C3;go_wp2_with fail
 go_ret
 exact ⟨ans14 ((decide_eq_true (show pfM (p0,(y0,y1,y2,y3),l) from ⟨⟨K1.out,K2.out⟩,K3.out⟩)).symm.trans HA.out),B3⟩
set_option maxHeartbeats 2000000 in
theorem pallP14 (m:Nat) (l:List Pf) (v:Value) (w:World) (hT:IsPfs w v l):Calls Tryz.prog 71 #[v,.int .i64 m,.func (.func 72) #[] #[]] w fun e w'=>e=.returned (.bool (decide (l.length≤m∧∀ x∈l,pfM x)))∧Below w.heap.size w w':=by
 obtain ⟨a,cap,rfl,h1,h2,h3,HC⟩:=hT.reads;obtain ⟨n,hn⟩:∃ n,l.length=n:=⟨_,rfl⟩;have HN:Hid (l.length=n):=hn;rw [hn] at h1 h3 ⊢;clear hn
 by_cases hbig:n≤m
 case neg =>
  rw [decide_eq_false (show ¬ (n≤m∧∀ x∈l,pfM x) from fun h=>hbig h.1)];have j:(m:Int) < (n:Int):=by omega
  go_enter Tryz.func71,Tryz.ntmps71
  go_wp2_with fail
  go_ret
  exact ⟨rfl,Below.refl _ _⟩
 have j:¬ (m:Int) < (n:Int):=by omega
 obtain ⟨ans,hans⟩:∃ b,decide (n≤m∧∀ x∈l,pfM x)=b:=⟨_,rfl⟩;rw [hans];have HQ:Hid (decide (n≤m∧∀ x∈l,pfM x)=ans):=hans;clear hans;go_enter Tryz.func71,Tryz.ntmps71
 go_wp2_with fail
 go_loopw [15] (fun i wr=>∃ (k:Nat),k≤n∧i=.int .i64 k∧Hid (∀ x∈l.take k,pfM x)∧Below w.heap.size w wr) (fun i _=>n - (RowKit.intOf i).toNat)
 case atStart=>exact ⟨0,Nat.zero_le _,rfl,(by intro x hx;simp at hx),Below.refl _ _⟩
 case round =>
  obtain ⟨k,hk,rfl,HA,hbw⟩:=hrel
  by_cases hlt:k < n
  ·have hk1:k < l.length:=by have:=HN.out;omega
   obtain ⟨bb,off,rfl,u,hu,hcell⟩:=HC.out k hk1;obtain ⟨q0,q1,q2,q3,q4,q5⟩:=hcell wr hbw;obtain ⟨y,hy⟩:∃ y,l[k]=y:=⟨_,rfl⟩;have HY:Hid (l[k]=y):=hy;rw [hy] at q0 q1 q2 q3 q4 hu;clear hcell hy;obtain ⟨p0,⟨y0,y1,y2,y3⟩,yl⟩:=y;simp only at q0 q1 q2 q3 q4 hu;obtain ⟨ua,uc,rfl,_⟩:=hu.len;have C:=fun (W:World) (hW:Below w.heap.size w W)=>pproofMay14 p0 y0 y1 y2 y3 ua uc yl W (hu.below hW)
   by_cases hx:pfM (p0,(y0,y1,y2,y3),yl)
   case neg =>
    have HE:Hid (¬ (n≤m∧∀ x∈l,pfM x)):=fun h=>hx (by have h9:=h.2 l[k] (List.getElem_mem hk1);rw [← HY.out];exact h9)
    simp only [decide_eq_false hx] at C;clear hx;go_wp2_with fail
    refine (C _ (hbw.alloc hbw.size _)).mono ?_;rintro e w3 ⟨rfl,b3⟩;go_wp2_with fail
    go_ret
    exact ⟨ans14 ((decide_eq_false HE.out).symm.trans HQ.out),bel_trans (hbw.alloc hbw.size _) b3⟩
   have HA':Hid (∀ x∈l.take (k+1),pfM x):=all_next14 hk1 HA.out (by rw [HY.out];exact hx);simp only [decide_eq_true hx] at C;clear hx;go_wp2_with fail
   refine (C _ (hbw.alloc hbw.size _)).mono ?_;rintro e w3 ⟨rfl,b3⟩;go_wp2_with fail
   go_roundw
   case rel=>exact ⟨k+1,by omega,by first | go_num | simp,HA',bel_trans (hbw.alloc hbw.size _) b3⟩
   case measure=>simp [RowKit.intOf];omega
  ·obtain rfl:k=n:=by omega
   have HE:Hid (k≤m∧∀ x∈l,pfM x):=⟨hbig,by have:=HA.out;rwa [List.take_of_length_le (by have:=HN.out;omega)] at this⟩;go_wp2_with fail
   go_ret
   exact ⟨ans14 ((decide_eq_true HE.out).symm.trans HQ.out),hbw⟩
end Go.Proofs.YthamoeekiglphaaGreatDoor
