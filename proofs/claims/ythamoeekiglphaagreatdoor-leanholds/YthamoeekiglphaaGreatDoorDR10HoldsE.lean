/-
  The ways through cartoucheref10.Holds.
-/
import Derived.Test.YthamoeekiglphaaGreatDoorDL0c
namespace Go.Proofs.YthamoeekiglphaaGreatDoor
set_option maxRecDepth 100000
open Go.RowKit
set_option linter.unusedVariables false
attribute [local go_sem] ba_size
set_option maxHeartbeats 4000000 in
theorem rh_s0 (w:World) (f t:Int) (i j:Nat) (n:Nat) (bb off:Nat) (ch:Nat) (ih:n≤ch) (jh:ch≤9223372036854775807) (kh:n≤140737488351232)
 (a b:Nat)  (x2 x3 y3:List UInt8) (e1:(f==t)=false) (hi:i < n) (hj:j < n)
 (HP:Hid (∀ V,Below w.heap.size w V→V.cell? ⟨bb,off+i*4,none⟩=some (.int .i64 2)∧V.cell? ⟨bb,off+i*4+1,none⟩=some (.int .i64 f)∧V.cell? ⟨bb,off+i*4+2,none⟩=some (.string ⟨x2.toArray⟩)∧V.cell? ⟨bb,off+i*4+3,none⟩=some (.string ⟨x3.toArray⟩)))
 (HR:Hid (∀ V,Below w.heap.size w V→V.cell? ⟨bb,off+j*4,none⟩=some (.int .i64 3)∧V.cell? ⟨bb,off+j*4+1,none⟩=some (.int .i64 t)∧V.cell? ⟨bb,off+j*4+2,none⟩=some (.string ⟨x2.toArray⟩)∧V.cell? ⟨bb,off+j*4+3,none⟩=some (.string ⟨y3.toArray⟩)))
 (D1:∀ W,Below w.heap.size w W→Calls Tryz.prog 67 #[.slice (some ⟨bb,off,none⟩) n ch,.int .i64 f] W fun e w'=>e=.returned (.int .i64 (a:Int))∧Below W.heap.size W w')
 (D2:∀ W,Below w.heap.size w W→Calls Tryz.prog 67 #[.slice (some ⟨bb,off,none⟩) n ch,.int .i64 t] W fun e w'=>e=.returned (.int .i64 (b:Int))∧Below W.heap.size W w')
 (v2:x3.isEmpty=false)
 (DW:∀ W,Below w.heap.size w W→Calls Tryz.prog 52 #[.slice (some ⟨bb,off,none⟩) n ch,.string ⟨x2.toArray⟩,.string ⟨x3.toArray⟩] W fun e w'=>e=.returned (.int .i64 (-1))∧Below W.heap.size W w') :
 Calls Tryz.prog 32 #[.slice (some ⟨bb,off,none⟩) n ch,.agg #[.int .i64 3,.int .i64 f,.int .i64 t,.int .i64 (i:Int),.int .i64 (j:Int)]] w fun e w'=>e=.returned (.bool false)∧Below w.heap.size w w':=by
 have i1:¬ (a:Int) < 0:=by omega
 have i2:¬ (b:Int) < 0:=by omega
 have g2:¬ (i:Int) < 0:=by omega
 have g3:¬ (n:Int)≤(i:Int):=by omega
 have g4:¬ (j:Int) < 0:=by omega
 have g5:¬ (n:Int)≤(j:Int):=by omega
 have X0:=SBox.new w 32 #[.int .i64 3,.int .i64 f,.int .i64 t,.int .i64 (i:Int),.int .i64 (j:Int)]
 have B0:=(Below.refl w.heap.size w).alloc (Nat.le_refl _) (.cells #[.int .i64 3,.int .i64 f,.int .i64 t,.int .i64 (i:Int),.int .i64 (j:Int)] 32)
 go_enter Tryz.func32,Tryz.ntmps32
 have c1:(w.alloc (.cells #[.int .i64 3,.int .i64 f,.int .i64 t,.int .i64 (i:Int),.int .i64 (j:Int)] 32)).cell? ⟨w.heap.size,1,none⟩=some (.int .i64 f):=X0.cell 1 _ rfl
 go_wp2_with fail
 refine (D1 _ B0).mono ?_
 rintro e' w1 ⟨rfl,b1⟩
 have B1:=bel_trans B0 b1
 have X1:=X0.below b1
 have c2:w1.cell? ⟨w.heap.size,2,none⟩=some (.int .i64 t):=X1.cell 2 _ rfl
 clear c1
 go_wp2_with fail
 refine (D2 _ B1).mono ?_
 rintro e' w2 ⟨rfl,b2⟩
 have B2:=bel_trans B1 b2
 have X2:=X1.below b2
 clear c2
 have d0:w2.cell? ⟨w.heap.size,0,none⟩=some (.int .i64 3):=X2.cell 0 _ rfl
 have d1:w2.cell? ⟨w.heap.size,1,none⟩=some (.int .i64 f):=X2.cell 1 _ rfl
 have d2:w2.cell? ⟨w.heap.size,2,none⟩=some (.int .i64 t):=X2.cell 2 _ rfl
 have d3:w2.cell? ⟨w.heap.size,3,none⟩=some (.int .i64 (i:Int)):=X2.cell 3 _ rfl
 have d4:w2.cell? ⟨w.heap.size,4,none⟩=some (.int .i64 (j:Int)):=X2.cell 4 _ rfl
 obtain ⟨p0,p1,p2,p3⟩:=HP.out _ B2
 have B3:=B2.alloc B2.size (.cells #[.int .i64 2,.int .i64 f,.string ⟨x2.toArray⟩,.string ⟨x3.toArray⟩] 53)
 have B4:=B3.alloc B3.size (.cells #[.int .i64 3,.int .i64 t,.string ⟨x2.toArray⟩,.string ⟨y3.toArray⟩] 53)
 have X4:=(X2.alloc (.cells #[.int .i64 2,.int .i64 f,.string ⟨x2.toArray⟩,.string ⟨x3.toArray⟩] 53)).alloc (.cells #[.int .i64 3,.int .i64 t,.string ⟨x2.toArray⟩,.string ⟨y3.toArray⟩] 53)
 have Y4:=(SBox.new w2 53 #[.int .i64 2,.int .i64 f,.string ⟨x2.toArray⟩,.string ⟨x3.toArray⟩]).alloc (.cells #[.int .i64 3,.int .i64 t,.string ⟨x2.toArray⟩,.string ⟨y3.toArray⟩] 53)
 obtain ⟨q0,q1,q2,q3⟩:=HR.out _ B3
 have X3:=X2.alloc (.cells #[.int .i64 2,.int .i64 f,.string ⟨x2.toArray⟩,.string ⟨x3.toArray⟩] 53)
 have Z4:=SBox.new (w2.alloc (.cells #[.int .i64 2,.int .i64 f,.string ⟨x2.toArray⟩,.string ⟨x3.toArray⟩] 53)) 53 #[.int .i64 3,.int .i64 t,.string ⟨x2.toArray⟩,.string ⟨y3.toArray⟩]
 have hz:(w2.alloc (.cells #[.int .i64 2,.int .i64 f,.string ⟨x2.toArray⟩,.string ⟨x3.toArray⟩] 53)).heap.size=w2.heap.size+1:=Array.size_push ..
 have m4:=X3.cell 4 _ rfl
 have x40:=X4.cell 0 _ rfl
 have x41:=X4.cell 1 _ rfl
 have x42:=X4.cell 2 _ rfl
 have y40:=Y4.cell 0 _ rfl
 have y41:=Y4.cell 1 _ rfl
 have y42:=Y4.cell 2 _ rfl
 have y43:=Y4.cell 3 _ rfl
 have z40:=Z4.cell 0 _ rfl
 have z41:=Z4.cell 1 _ rfl
 have z42:=Z4.cell 2 _ rfl
 have z43:=Z4.cell 3 _ rfl
 have t0:((w2.alloc (.cells #[.int .i64 2,.int .i64 f,.string ⟨x2.toArray⟩,.string ⟨x3.toArray⟩] 53)).alloc (.cells #[.int .i64 3,.int .i64 t,.string ⟨x2.toArray⟩,.string ⟨y3.toArray⟩] 53)).cell? ⟨w2.heap.size,2,none⟩=some (.string ⟨x2.toArray⟩):=Y4.cell 2 _ rfl
 go_wp2_with fail
 refine (DW _ B4).mono ?_
 rintro e' w5 ⟨rfl,b5⟩
 have B5:=bel_trans B4 b5
 have X5:=X4.below b5
 have g2':w5.cell? ⟨w.heap.size,2,none⟩=some (.int .i64 t):=X5.cell 2 _ rfl
 clear t0 p0 p1 p2 p3 q0 q1 q2 q3 d0 d1 d2 d3 d4
 go_wp2_with fail
 go_quiet (fail)
 go_wp2_with fail
 go_ret
 exact ⟨rfl,below_drewN B5 _⟩
set_option maxHeartbeats 4000000 in
theorem rh_s1 (w:World) (f t:Int) (i j:Nat) (n:Nat) (bb off:Nat) (ch:Nat) (ih:n≤ch) (jh:ch≤9223372036854775807) (kh:n≤140737488351232)
 (a b:Nat)  (x2 x3 y3:List UInt8) (e1:(f==t)=false) (hi:i < n) (hj:j < n)
 (HP:Hid (∀ V,Below w.heap.size w V→V.cell? ⟨bb,off+i*4,none⟩=some (.int .i64 2)∧V.cell? ⟨bb,off+i*4+1,none⟩=some (.int .i64 f)∧V.cell? ⟨bb,off+i*4+2,none⟩=some (.string ⟨x2.toArray⟩)∧V.cell? ⟨bb,off+i*4+3,none⟩=some (.string ⟨x3.toArray⟩)))
 (HR:Hid (∀ V,Below w.heap.size w V→V.cell? ⟨bb,off+j*4,none⟩=some (.int .i64 3)∧V.cell? ⟨bb,off+j*4+1,none⟩=some (.int .i64 t)∧V.cell? ⟨bb,off+j*4+2,none⟩=some (.string ⟨x2.toArray⟩)∧V.cell? ⟨bb,off+j*4+3,none⟩=some (.string ⟨y3.toArray⟩)))
 (D1:∀ W,Below w.heap.size w W→Calls Tryz.prog 67 #[.slice (some ⟨bb,off,none⟩) n ch,.int .i64 f] W fun e w'=>e=.returned (.int .i64 (a:Int))∧Below W.heap.size W w')
 (D2:∀ W,Below w.heap.size w W→Calls Tryz.prog 67 #[.slice (some ⟨bb,off,none⟩) n ch,.int .i64 t] W fun e w'=>e=.returned (.int .i64 (b:Int))∧Below W.heap.size W w')
 (v2:x3.isEmpty=false) (q:Nat) (hq:q < n) (z0:Int) (z2 z3:List UInt8) (HZ:Hid (∀ V,Below w.heap.size w V→V.cell? ⟨bb,off+q*4,none⟩=some (.int .i64 z0)∧V.cell? ⟨bb,off+q*4+1,none⟩=some (.int .i64 t)∧V.cell? ⟨bb,off+q*4+2,none⟩=some (.string ⟨z2.toArray⟩)∧V.cell? ⟨bb,off+q*4+3,none⟩=some (.string ⟨z3.toArray⟩)))
 (DW:∀ W,Below w.heap.size w W→Calls Tryz.prog 52 #[.slice (some ⟨bb,off,none⟩) n ch,.string ⟨x2.toArray⟩,.string ⟨x3.toArray⟩] W fun e w'=>e=.returned (.int .i64 (q:Int))∧Below W.heap.size W w')  :
 Calls Tryz.prog 32 #[.slice (some ⟨bb,off,none⟩) n ch,.agg #[.int .i64 3,.int .i64 f,.int .i64 t,.int .i64 (i:Int),.int .i64 (j:Int)]] w fun e w'=>e=.returned (.bool false)∧Below w.heap.size w w':=by
 have i1:¬ (a:Int) < 0:=by omega
 have i2:¬ (b:Int) < 0:=by omega
 have g2:¬ (i:Int) < 0:=by omega
 have g3:¬ (n:Int)≤(i:Int):=by omega
 have g4:¬ (j:Int) < 0:=by omega
 have g5:¬ (n:Int)≤(j:Int):=by omega
 have X0:=SBox.new w 32 #[.int .i64 3,.int .i64 f,.int .i64 t,.int .i64 (i:Int),.int .i64 (j:Int)]
 have B0:=(Below.refl w.heap.size w).alloc (Nat.le_refl _) (.cells #[.int .i64 3,.int .i64 f,.int .i64 t,.int .i64 (i:Int),.int .i64 (j:Int)] 32)
 go_enter Tryz.func32,Tryz.ntmps32
 have c1:(w.alloc (.cells #[.int .i64 3,.int .i64 f,.int .i64 t,.int .i64 (i:Int),.int .i64 (j:Int)] 32)).cell? ⟨w.heap.size,1,none⟩=some (.int .i64 f):=X0.cell 1 _ rfl
 go_wp2_with fail
 refine (D1 _ B0).mono ?_
 rintro e' w1 ⟨rfl,b1⟩
 have B1:=bel_trans B0 b1
 have X1:=X0.below b1
 have c2:w1.cell? ⟨w.heap.size,2,none⟩=some (.int .i64 t):=X1.cell 2 _ rfl
 clear c1
 go_wp2_with fail
 refine (D2 _ B1).mono ?_
 rintro e' w2 ⟨rfl,b2⟩
 have B2:=bel_trans B1 b2
 have X2:=X1.below b2
 clear c2
 have d0:w2.cell? ⟨w.heap.size,0,none⟩=some (.int .i64 3):=X2.cell 0 _ rfl
 have d1:w2.cell? ⟨w.heap.size,1,none⟩=some (.int .i64 f):=X2.cell 1 _ rfl
 have d2:w2.cell? ⟨w.heap.size,2,none⟩=some (.int .i64 t):=X2.cell 2 _ rfl
 have d3:w2.cell? ⟨w.heap.size,3,none⟩=some (.int .i64 (i:Int)):=X2.cell 3 _ rfl
 have d4:w2.cell? ⟨w.heap.size,4,none⟩=some (.int .i64 (j:Int)):=X2.cell 4 _ rfl
 obtain ⟨p0,p1,p2,p3⟩:=HP.out _ B2
 have B3:=B2.alloc B2.size (.cells #[.int .i64 2,.int .i64 f,.string ⟨x2.toArray⟩,.string ⟨x3.toArray⟩] 53)
 have B4:=B3.alloc B3.size (.cells #[.int .i64 3,.int .i64 t,.string ⟨x2.toArray⟩,.string ⟨y3.toArray⟩] 53)
 have X4:=(X2.alloc (.cells #[.int .i64 2,.int .i64 f,.string ⟨x2.toArray⟩,.string ⟨x3.toArray⟩] 53)).alloc (.cells #[.int .i64 3,.int .i64 t,.string ⟨x2.toArray⟩,.string ⟨y3.toArray⟩] 53)
 have Y4:=(SBox.new w2 53 #[.int .i64 2,.int .i64 f,.string ⟨x2.toArray⟩,.string ⟨x3.toArray⟩]).alloc (.cells #[.int .i64 3,.int .i64 t,.string ⟨x2.toArray⟩,.string ⟨y3.toArray⟩] 53)
 obtain ⟨q0,q1,q2,q3⟩:=HR.out _ B3
 have X3:=X2.alloc (.cells #[.int .i64 2,.int .i64 f,.string ⟨x2.toArray⟩,.string ⟨x3.toArray⟩] 53)
 have Z4:=SBox.new (w2.alloc (.cells #[.int .i64 2,.int .i64 f,.string ⟨x2.toArray⟩,.string ⟨x3.toArray⟩] 53)) 53 #[.int .i64 3,.int .i64 t,.string ⟨x2.toArray⟩,.string ⟨y3.toArray⟩]
 have hz:(w2.alloc (.cells #[.int .i64 2,.int .i64 f,.string ⟨x2.toArray⟩,.string ⟨x3.toArray⟩] 53)).heap.size=w2.heap.size+1:=Array.size_push ..
 have m4:=X3.cell 4 _ rfl
 have x40:=X4.cell 0 _ rfl
 have x41:=X4.cell 1 _ rfl
 have x42:=X4.cell 2 _ rfl
 have y40:=Y4.cell 0 _ rfl
 have y41:=Y4.cell 1 _ rfl
 have y42:=Y4.cell 2 _ rfl
 have y43:=Y4.cell 3 _ rfl
 have z40:=Z4.cell 0 _ rfl
 have z41:=Z4.cell 1 _ rfl
 have z42:=Z4.cell 2 _ rfl
 have z43:=Z4.cell 3 _ rfl
 have t0:((w2.alloc (.cells #[.int .i64 2,.int .i64 f,.string ⟨x2.toArray⟩,.string ⟨x3.toArray⟩] 53)).alloc (.cells #[.int .i64 3,.int .i64 t,.string ⟨x2.toArray⟩,.string ⟨y3.toArray⟩] 53)).cell? ⟨w2.heap.size,2,none⟩=some (.string ⟨x2.toArray⟩):=Y4.cell 2 _ rfl
 go_wp2_with fail
 refine (DW _ B4).mono ?_
 rintro e' w5 ⟨rfl,b5⟩
 have B5:=bel_trans B4 b5
 have X5:=X4.below b5
 have g2':w5.cell? ⟨w.heap.size,2,none⟩=some (.int .i64 t):=X5.cell 2 _ rfl
 clear t0 p0 p1 p2 p3 q0 q1 q2 q3 d0 d1 d2 d3 d4
 have j1:¬ (q:Int) < 0:=by omega
 have j3:¬ (n:Int)≤(q:Int):=by omega
 obtain ⟨k0,k1,k2,k3⟩:=HZ.out _ B5
 go_wp2_with fail
 go_quiet (fail)
 go_wp2_with fail
 go_ret
 exact ⟨rfl,below_drewN B5 _⟩
set_option maxHeartbeats 4000000 in
theorem rh_s2 (w:World) (f t:Int) (i j:Nat) (n:Nat) (bb off:Nat) (ch:Nat) (ih:n≤ch) (jh:ch≤9223372036854775807) (kh:n≤140737488351232)
 (a b:Nat)  (x2 x3 y3:List UInt8) (e1:(f==t)=false) (hi:i < n) (hj:j < n)
 (HP:Hid (∀ V,Below w.heap.size w V→V.cell? ⟨bb,off+i*4,none⟩=some (.int .i64 2)∧V.cell? ⟨bb,off+i*4+1,none⟩=some (.int .i64 f)∧V.cell? ⟨bb,off+i*4+2,none⟩=some (.string ⟨x2.toArray⟩)∧V.cell? ⟨bb,off+i*4+3,none⟩=some (.string ⟨x3.toArray⟩)))
 (HR:Hid (∀ V,Below w.heap.size w V→V.cell? ⟨bb,off+j*4,none⟩=some (.int .i64 3)∧V.cell? ⟨bb,off+j*4+1,none⟩=some (.int .i64 t)∧V.cell? ⟨bb,off+j*4+2,none⟩=some (.string ⟨x2.toArray⟩)∧V.cell? ⟨bb,off+j*4+3,none⟩=some (.string ⟨y3.toArray⟩)))
 (D1:∀ W,Below w.heap.size w W→Calls Tryz.prog 67 #[.slice (some ⟨bb,off,none⟩) n ch,.int .i64 f] W fun e w'=>e=.returned (.int .i64 (a:Int))∧Below W.heap.size W w')
 (D2:∀ W,Below w.heap.size w W→Calls Tryz.prog 67 #[.slice (some ⟨bb,off,none⟩) n ch,.int .i64 t] W fun e w'=>e=.returned (.int .i64 (b:Int))∧Below W.heap.size W w')
 (v2:x3.isEmpty=false) (q:Nat) (hq:q < n) (z0 z1:Int) (z2 z3:List UInt8) (HZ:Hid (∀ V,Below w.heap.size w V→V.cell? ⟨bb,off+q*4,none⟩=some (.int .i64 z0)∧V.cell? ⟨bb,off+q*4+1,none⟩=some (.int .i64 z1)∧V.cell? ⟨bb,off+q*4+2,none⟩=some (.string ⟨z2.toArray⟩)∧V.cell? ⟨bb,off+q*4+3,none⟩=some (.string ⟨z3.toArray⟩)))
 (DW:∀ W,Below w.heap.size w W→Calls Tryz.prog 52 #[.slice (some ⟨bb,off,none⟩) n ch,.string ⟨x2.toArray⟩,.string ⟨x3.toArray⟩] W fun e w'=>e=.returned (.int .i64 (q:Int))∧Below W.heap.size W w') (v3:(z1==t)=false)
 (DC:∀ W,Below w.heap.size w W→Calls Tryz.prog 67 #[.slice (some ⟨bb,off,none⟩) n ch,.int .i64 z1] W fun e w'=>e=.returned (.int .i64 (-1))∧Below W.heap.size W w') :
 Calls Tryz.prog 32 #[.slice (some ⟨bb,off,none⟩) n ch,.agg #[.int .i64 3,.int .i64 f,.int .i64 t,.int .i64 (i:Int),.int .i64 (j:Int)]] w fun e w'=>e=.returned (.bool false)∧Below w.heap.size w w':=by
 have i1:¬ (a:Int) < 0:=by omega
 have i2:¬ (b:Int) < 0:=by omega
 have g2:¬ (i:Int) < 0:=by omega
 have g3:¬ (n:Int)≤(i:Int):=by omega
 have g4:¬ (j:Int) < 0:=by omega
 have g5:¬ (n:Int)≤(j:Int):=by omega
 have X0:=SBox.new w 32 #[.int .i64 3,.int .i64 f,.int .i64 t,.int .i64 (i:Int),.int .i64 (j:Int)]
 have B0:=(Below.refl w.heap.size w).alloc (Nat.le_refl _) (.cells #[.int .i64 3,.int .i64 f,.int .i64 t,.int .i64 (i:Int),.int .i64 (j:Int)] 32)
 go_enter Tryz.func32,Tryz.ntmps32
 have c1:(w.alloc (.cells #[.int .i64 3,.int .i64 f,.int .i64 t,.int .i64 (i:Int),.int .i64 (j:Int)] 32)).cell? ⟨w.heap.size,1,none⟩=some (.int .i64 f):=X0.cell 1 _ rfl
 go_wp2_with fail
 refine (D1 _ B0).mono ?_
 rintro e' w1 ⟨rfl,b1⟩
 have B1:=bel_trans B0 b1
 have X1:=X0.below b1
 have c2:w1.cell? ⟨w.heap.size,2,none⟩=some (.int .i64 t):=X1.cell 2 _ rfl
 clear c1
 go_wp2_with fail
 refine (D2 _ B1).mono ?_
 rintro e' w2 ⟨rfl,b2⟩
 have B2:=bel_trans B1 b2
 have X2:=X1.below b2
 clear c2
 have d0:w2.cell? ⟨w.heap.size,0,none⟩=some (.int .i64 3):=X2.cell 0 _ rfl
 have d1:w2.cell? ⟨w.heap.size,1,none⟩=some (.int .i64 f):=X2.cell 1 _ rfl
 have d2:w2.cell? ⟨w.heap.size,2,none⟩=some (.int .i64 t):=X2.cell 2 _ rfl
 have d3:w2.cell? ⟨w.heap.size,3,none⟩=some (.int .i64 (i:Int)):=X2.cell 3 _ rfl
 have d4:w2.cell? ⟨w.heap.size,4,none⟩=some (.int .i64 (j:Int)):=X2.cell 4 _ rfl
 obtain ⟨p0,p1,p2,p3⟩:=HP.out _ B2
 have B3:=B2.alloc B2.size (.cells #[.int .i64 2,.int .i64 f,.string ⟨x2.toArray⟩,.string ⟨x3.toArray⟩] 53)
 have B4:=B3.alloc B3.size (.cells #[.int .i64 3,.int .i64 t,.string ⟨x2.toArray⟩,.string ⟨y3.toArray⟩] 53)
 have X4:=(X2.alloc (.cells #[.int .i64 2,.int .i64 f,.string ⟨x2.toArray⟩,.string ⟨x3.toArray⟩] 53)).alloc (.cells #[.int .i64 3,.int .i64 t,.string ⟨x2.toArray⟩,.string ⟨y3.toArray⟩] 53)
 have Y4:=(SBox.new w2 53 #[.int .i64 2,.int .i64 f,.string ⟨x2.toArray⟩,.string ⟨x3.toArray⟩]).alloc (.cells #[.int .i64 3,.int .i64 t,.string ⟨x2.toArray⟩,.string ⟨y3.toArray⟩] 53)
 obtain ⟨q0,q1,q2,q3⟩:=HR.out _ B3
 have X3:=X2.alloc (.cells #[.int .i64 2,.int .i64 f,.string ⟨x2.toArray⟩,.string ⟨x3.toArray⟩] 53)
 have Z4:=SBox.new (w2.alloc (.cells #[.int .i64 2,.int .i64 f,.string ⟨x2.toArray⟩,.string ⟨x3.toArray⟩] 53)) 53 #[.int .i64 3,.int .i64 t,.string ⟨x2.toArray⟩,.string ⟨y3.toArray⟩]
 have hz:(w2.alloc (.cells #[.int .i64 2,.int .i64 f,.string ⟨x2.toArray⟩,.string ⟨x3.toArray⟩] 53)).heap.size=w2.heap.size+1:=Array.size_push ..
 have m4:=X3.cell 4 _ rfl
 have x40:=X4.cell 0 _ rfl
 have x41:=X4.cell 1 _ rfl
 have x42:=X4.cell 2 _ rfl
 have y40:=Y4.cell 0 _ rfl
 have y41:=Y4.cell 1 _ rfl
 have y42:=Y4.cell 2 _ rfl
 have y43:=Y4.cell 3 _ rfl
 have z40:=Z4.cell 0 _ rfl
 have z41:=Z4.cell 1 _ rfl
 have z42:=Z4.cell 2 _ rfl
 have z43:=Z4.cell 3 _ rfl
 have t0:((w2.alloc (.cells #[.int .i64 2,.int .i64 f,.string ⟨x2.toArray⟩,.string ⟨x3.toArray⟩] 53)).alloc (.cells #[.int .i64 3,.int .i64 t,.string ⟨x2.toArray⟩,.string ⟨y3.toArray⟩] 53)).cell? ⟨w2.heap.size,2,none⟩=some (.string ⟨x2.toArray⟩):=Y4.cell 2 _ rfl
 go_wp2_with fail
 refine (DW _ B4).mono ?_
 rintro e' w5 ⟨rfl,b5⟩
 have B5:=bel_trans B4 b5
 have X5:=X4.below b5
 have g2':w5.cell? ⟨w.heap.size,2,none⟩=some (.int .i64 t):=X5.cell 2 _ rfl
 clear t0 p0 p1 p2 p3 q0 q1 q2 q3 d0 d1 d2 d3 d4
 have j1:¬ (q:Int) < 0:=by omega
 have j3:¬ (n:Int)≤(q:Int):=by omega
 obtain ⟨k0,k1,k2,k3⟩:=HZ.out _ B5
 go_wp2_with fail
 go_quiet (fail)
 generalize hV:World.drewN _ _=V
 have BV:Below w.heap.size w V:=by rw [← hV];exact below_drewN B5 _
 clear hV k0 k1 k2 k3 g2'
 obtain ⟨_,l1,_,_⟩:=HZ.out _ BV
 go_wp2_with fail
 refine (DC _ BV).mono ?_
 rintro e' w6 ⟨rfl,b6⟩
 go_wp2_with fail
 go_ret
 exact ⟨rfl,bel_trans BV b6⟩
set_option maxHeartbeats 4000000 in
theorem rh_s3 (w:World) (f t:Int) (i j:Nat) (n:Nat) (bb off:Nat) (ch:Nat) (ih:n≤ch) (jh:ch≤9223372036854775807) (kh:n≤140737488351232)
 (a b:Nat)  (x2 x3 y3:List UInt8) (e1:(f==t)=false) (hi:i < n) (hj:j < n)
 (HP:Hid (∀ V,Below w.heap.size w V→V.cell? ⟨bb,off+i*4,none⟩=some (.int .i64 2)∧V.cell? ⟨bb,off+i*4+1,none⟩=some (.int .i64 f)∧V.cell? ⟨bb,off+i*4+2,none⟩=some (.string ⟨x2.toArray⟩)∧V.cell? ⟨bb,off+i*4+3,none⟩=some (.string ⟨x3.toArray⟩)))
 (HR:Hid (∀ V,Below w.heap.size w V→V.cell? ⟨bb,off+j*4,none⟩=some (.int .i64 3)∧V.cell? ⟨bb,off+j*4+1,none⟩=some (.int .i64 t)∧V.cell? ⟨bb,off+j*4+2,none⟩=some (.string ⟨x2.toArray⟩)∧V.cell? ⟨bb,off+j*4+3,none⟩=some (.string ⟨y3.toArray⟩)))
 (D1:∀ W,Below w.heap.size w W→Calls Tryz.prog 67 #[.slice (some ⟨bb,off,none⟩) n ch,.int .i64 f] W fun e w'=>e=.returned (.int .i64 (a:Int))∧Below W.heap.size W w')
 (D2:∀ W,Below w.heap.size w W→Calls Tryz.prog 67 #[.slice (some ⟨bb,off,none⟩) n ch,.int .i64 t] W fun e w'=>e=.returned (.int .i64 (b:Int))∧Below W.heap.size W w')
 (v2:x3.isEmpty=false) (q:Nat) (hq:q < n) (z0 z1:Int) (z2 z3:List UInt8) (HZ:Hid (∀ V,Below w.heap.size w V→V.cell? ⟨bb,off+q*4,none⟩=some (.int .i64 z0)∧V.cell? ⟨bb,off+q*4+1,none⟩=some (.int .i64 z1)∧V.cell? ⟨bb,off+q*4+2,none⟩=some (.string ⟨z2.toArray⟩)∧V.cell? ⟨bb,off+q*4+3,none⟩=some (.string ⟨z3.toArray⟩)))
 (DW:∀ W,Below w.heap.size w W→Calls Tryz.prog 52 #[.slice (some ⟨bb,off,none⟩) n ch,.string ⟨x2.toArray⟩,.string ⟨x3.toArray⟩] W fun e w'=>e=.returned (.int .i64 (q:Int))∧Below W.heap.size W w') (v3:(z1==t)=false) (c:Nat)
 (DC:∀ W,Below w.heap.size w W→Calls Tryz.prog 67 #[.slice (some ⟨bb,off,none⟩) n ch,.int .i64 z1] W fun e w'=>e=.returned (.int .i64 (c:Int))∧Below W.heap.size W w') :
 Calls Tryz.prog 32 #[.slice (some ⟨bb,off,none⟩) n ch,.agg #[.int .i64 3,.int .i64 f,.int .i64 t,.int .i64 (i:Int),.int .i64 (j:Int)]] w fun e w'=>e=.returned (.bool (decide (c < b)))∧Below w.heap.size w w':=by
 have i1:¬ (a:Int) < 0:=by omega
 have i2:¬ (b:Int) < 0:=by omega
 have g2:¬ (i:Int) < 0:=by omega
 have g3:¬ (n:Int)≤(i:Int):=by omega
 have g4:¬ (j:Int) < 0:=by omega
 have g5:¬ (n:Int)≤(j:Int):=by omega
 have X0:=SBox.new w 32 #[.int .i64 3,.int .i64 f,.int .i64 t,.int .i64 (i:Int),.int .i64 (j:Int)]
 have B0:=(Below.refl w.heap.size w).alloc (Nat.le_refl _) (.cells #[.int .i64 3,.int .i64 f,.int .i64 t,.int .i64 (i:Int),.int .i64 (j:Int)] 32)
 go_enter Tryz.func32,Tryz.ntmps32
 have c1:(w.alloc (.cells #[.int .i64 3,.int .i64 f,.int .i64 t,.int .i64 (i:Int),.int .i64 (j:Int)] 32)).cell? ⟨w.heap.size,1,none⟩=some (.int .i64 f):=X0.cell 1 _ rfl
 go_wp2_with fail
 refine (D1 _ B0).mono ?_
 rintro e' w1 ⟨rfl,b1⟩
 have B1:=bel_trans B0 b1
 have X1:=X0.below b1
 have c2:w1.cell? ⟨w.heap.size,2,none⟩=some (.int .i64 t):=X1.cell 2 _ rfl
 clear c1
 go_wp2_with fail
 refine (D2 _ B1).mono ?_
 rintro e' w2 ⟨rfl,b2⟩
 have B2:=bel_trans B1 b2
 have X2:=X1.below b2
 clear c2
 have d0:w2.cell? ⟨w.heap.size,0,none⟩=some (.int .i64 3):=X2.cell 0 _ rfl
 have d1:w2.cell? ⟨w.heap.size,1,none⟩=some (.int .i64 f):=X2.cell 1 _ rfl
 have d2:w2.cell? ⟨w.heap.size,2,none⟩=some (.int .i64 t):=X2.cell 2 _ rfl
 have d3:w2.cell? ⟨w.heap.size,3,none⟩=some (.int .i64 (i:Int)):=X2.cell 3 _ rfl
 have d4:w2.cell? ⟨w.heap.size,4,none⟩=some (.int .i64 (j:Int)):=X2.cell 4 _ rfl
 obtain ⟨p0,p1,p2,p3⟩:=HP.out _ B2
 have B3:=B2.alloc B2.size (.cells #[.int .i64 2,.int .i64 f,.string ⟨x2.toArray⟩,.string ⟨x3.toArray⟩] 53)
 have B4:=B3.alloc B3.size (.cells #[.int .i64 3,.int .i64 t,.string ⟨x2.toArray⟩,.string ⟨y3.toArray⟩] 53)
 have X4:=(X2.alloc (.cells #[.int .i64 2,.int .i64 f,.string ⟨x2.toArray⟩,.string ⟨x3.toArray⟩] 53)).alloc (.cells #[.int .i64 3,.int .i64 t,.string ⟨x2.toArray⟩,.string ⟨y3.toArray⟩] 53)
 have Y4:=(SBox.new w2 53 #[.int .i64 2,.int .i64 f,.string ⟨x2.toArray⟩,.string ⟨x3.toArray⟩]).alloc (.cells #[.int .i64 3,.int .i64 t,.string ⟨x2.toArray⟩,.string ⟨y3.toArray⟩] 53)
 obtain ⟨q0,q1,q2,q3⟩:=HR.out _ B3
 have X3:=X2.alloc (.cells #[.int .i64 2,.int .i64 f,.string ⟨x2.toArray⟩,.string ⟨x3.toArray⟩] 53)
 have Z4:=SBox.new (w2.alloc (.cells #[.int .i64 2,.int .i64 f,.string ⟨x2.toArray⟩,.string ⟨x3.toArray⟩] 53)) 53 #[.int .i64 3,.int .i64 t,.string ⟨x2.toArray⟩,.string ⟨y3.toArray⟩]
 have hz:(w2.alloc (.cells #[.int .i64 2,.int .i64 f,.string ⟨x2.toArray⟩,.string ⟨x3.toArray⟩] 53)).heap.size=w2.heap.size+1:=Array.size_push ..
 have m4:=X3.cell 4 _ rfl
 have x40:=X4.cell 0 _ rfl
 have x41:=X4.cell 1 _ rfl
 have x42:=X4.cell 2 _ rfl
 have y40:=Y4.cell 0 _ rfl
 have y41:=Y4.cell 1 _ rfl
 have y42:=Y4.cell 2 _ rfl
 have y43:=Y4.cell 3 _ rfl
 have z40:=Z4.cell 0 _ rfl
 have z41:=Z4.cell 1 _ rfl
 have z42:=Z4.cell 2 _ rfl
 have z43:=Z4.cell 3 _ rfl
 have j2:(0:Int)≤(c:Int):=by omega
 have t0:((w2.alloc (.cells #[.int .i64 2,.int .i64 f,.string ⟨x2.toArray⟩,.string ⟨x3.toArray⟩] 53)).alloc (.cells #[.int .i64 3,.int .i64 t,.string ⟨x2.toArray⟩,.string ⟨y3.toArray⟩] 53)).cell? ⟨w2.heap.size,2,none⟩=some (.string ⟨x2.toArray⟩):=Y4.cell 2 _ rfl
 go_wp2_with fail
 refine (DW _ B4).mono ?_
 rintro e' w5 ⟨rfl,b5⟩
 have B5:=bel_trans B4 b5
 have X5:=X4.below b5
 have g2':w5.cell? ⟨w.heap.size,2,none⟩=some (.int .i64 t):=X5.cell 2 _ rfl
 clear t0 p0 p1 p2 p3 q0 q1 q2 q3 d0 d1 d2 d3 d4
 have j1:¬ (q:Int) < 0:=by omega
 have j3:¬ (n:Int)≤(q:Int):=by omega
 obtain ⟨k0,k1,k2,k3⟩:=HZ.out _ B5
 go_wp2_with fail
 go_quiet (fail)
 generalize hV:World.drewN _ _=V
 have BV:Below w.heap.size w V:=by rw [← hV];exact below_drewN B5 _
 clear hV k0 k1 k2 k3 g2'
 obtain ⟨_,l1,_,_⟩:=HZ.out _ BV
 go_wp2_with fail
 refine (DC _ BV).mono ?_
 rintro e' w6 ⟨rfl,b6⟩
 go_wp2_with fail
 go_ret
 exact ⟨rfl,bel_trans BV b6⟩
end Go.Proofs.YthamoeekiglphaaGreatDoor
