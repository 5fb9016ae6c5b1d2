/-
  The ways through cartoucheref10.Holds. The ways through cartoucheref10.Holds. The ways through cartoucheref10.Holds. What cartoucheref10.Holds answers. What car
-/
import Derived.Test.YtdlcimfifkhllaaGreatCL0c
import Derived.Maps.AppendAt
namespace Go.Proofs.YtdlcimfifkhllaaGreat
set_option maxRecDepth 100000
open Go.RowKit
set_option linter.unusedVariables false
attribute [local go_sem] ba_size
set_option maxHeartbeats 4000000 in
theorem rh_w0 (w:World) (f t:Int) (i j:Nat) (n:Nat) (bb off:Nat) (ch:Nat) (ih:n≤ch) (jh:ch≤9223372036854775807) (kh:n≤140737488351232)
 (a b:Nat) (x0 y0:Int) (x2 x3 y3:List UInt8) (e1:(f==t)=false) (hi:i < n) (hj:j < n)
 (HP:Hid (∀ V,Below w.heap.size w V→V.cell? ⟨bb,off+i*4,none⟩=some (.int .i64 x0)∧V.cell? ⟨bb,off+i*4+1,none⟩=some (.int .i64 f)∧V.cell? ⟨bb,off+i*4+2,none⟩=some (.string ⟨x2.toArray⟩)∧V.cell? ⟨bb,off+i*4+3,none⟩=some (.string ⟨x3.toArray⟩)))
 (HR:Hid (∀ V,Below w.heap.size w V→V.cell? ⟨bb,off+j*4,none⟩=some (.int .i64 y0)∧V.cell? ⟨bb,off+j*4+1,none⟩=some (.int .i64 t)∧V.cell? ⟨bb,off+j*4+2,none⟩=some (.string ⟨x2.toArray⟩)∧V.cell? ⟨bb,off+j*4+3,none⟩=some (.string ⟨y3.toArray⟩)))
 (D1:∀ W,Below w.heap.size w W→Calls Tryz.prog 47 #[.slice (some ⟨bb,off,none⟩) n ch,.int .i64 f] W fun e w'=>e=.returned (.int .i64 (a:Int))∧Below W.heap.size W w')
 (D2:∀ W,Below w.heap.size w W→Calls Tryz.prog 47 #[.slice (some ⟨bb,off,none⟩) n ch,.int .i64 t] W fun e w'=>e=.returned (.int .i64 (b:Int))∧Below W.heap.size W w')
 (v0:(x0==3)=false) :
 Calls Tryz.prog 39 #[.slice (some ⟨bb,off,none⟩) n ch,.agg #[.int .i64 1,.int .i64 f,.int .i64 t,.int .i64 (i:Int),.int .i64 (j:Int)]] w fun e w'=>e=.returned (.bool false)∧Below w.heap.size w w':=by
 have i1:¬ (a:Int) < 0:=by omega
 have i2:¬ (b:Int) < 0:=by omega
 have g2:¬ (i:Int) < 0:=by omega
 have g3:¬ (n:Int)≤(i:Int):=by omega
 have g4:¬ (j:Int) < 0:=by omega
 have g5:¬ (n:Int)≤(j:Int):=by omega
 have X0:=SBox.new w 71 #[.int .i64 1,.int .i64 f,.int .i64 t,.int .i64 (i:Int),.int .i64 (j:Int)]
 have B0:=(Below.refl w.heap.size w).alloc (Nat.le_refl _) (.cells #[.int .i64 1,.int .i64 f,.int .i64 t,.int .i64 (i:Int),.int .i64 (j:Int)] 71)
 go_enter Tryz.func39,Tryz.ntmps39
 have c1:(w.alloc (.cells #[.int .i64 1,.int .i64 f,.int .i64 t,.int .i64 (i:Int),.int .i64 (j:Int)] 71)).cell? ⟨w.heap.size,1,none⟩=some (.int .i64 f):=X0.cell 1 _ rfl
 go_wp2_with fail
 refine (D1 _ B0).mono ?_
 rintro e' w1 ⟨rfl,b1⟩
 have B1:=bel_trans B0 b1
 have X1:=X0.below b1
 have c2:w1.cell? ⟨w.heap.size,2,none⟩=some (.int .i64 t):=X1.cell 2 _ rfl
 clear c1
 go_wp2_with fail
 refine (D2 _ B1).mono ?_
 rintro e' w2 ⟨rfl,b2⟩
 have B2:=bel_trans B1 b2
 have X2:=X1.below b2
 clear c2
 have d0:w2.cell? ⟨w.heap.size,0,none⟩=some (.int .i64 1):=X2.cell 0 _ rfl
 have d1:w2.cell? ⟨w.heap.size,1,none⟩=some (.int .i64 f):=X2.cell 1 _ rfl
 have d2:w2.cell? ⟨w.heap.size,2,none⟩=some (.int .i64 t):=X2.cell 2 _ rfl
 have d3:w2.cell? ⟨w.heap.size,3,none⟩=some (.int .i64 (i:Int)):=X2.cell 3 _ rfl
 have d4:w2.cell? ⟨w.heap.size,4,none⟩=some (.int .i64 (j:Int)):=X2.cell 4 _ rfl
 obtain ⟨p0,p1,p2,p3⟩:=HP.out _ B2
 have B3:=B2.alloc B2.size (.cells #[.int .i64 x0,.int .i64 f,.string ⟨x2.toArray⟩,.string ⟨x3.toArray⟩] 49)
 have B4:=B3.alloc B3.size (.cells #[.int .i64 y0,.int .i64 t,.string ⟨x2.toArray⟩,.string ⟨y3.toArray⟩] 49)
 have X4:=(X2.alloc (.cells #[.int .i64 x0,.int .i64 f,.string ⟨x2.toArray⟩,.string ⟨x3.toArray⟩] 49)).alloc (.cells #[.int .i64 y0,.int .i64 t,.string ⟨x2.toArray⟩,.string ⟨y3.toArray⟩] 49)
 have Y4:=(SBox.new w2 49 #[.int .i64 x0,.int .i64 f,.string ⟨x2.toArray⟩,.string ⟨x3.toArray⟩]).alloc (.cells #[.int .i64 y0,.int .i64 t,.string ⟨x2.toArray⟩,.string ⟨y3.toArray⟩] 49)
 obtain ⟨q0,q1,q2,q3⟩:=HR.out _ B3
 have X3:=X2.alloc (.cells #[.int .i64 x0,.int .i64 f,.string ⟨x2.toArray⟩,.string ⟨x3.toArray⟩] 49)
 have Z4:=SBox.new (w2.alloc (.cells #[.int .i64 x0,.int .i64 f,.string ⟨x2.toArray⟩,.string ⟨x3.toArray⟩] 49)) 49 #[.int .i64 y0,.int .i64 t,.string ⟨x2.toArray⟩,.string ⟨y3.toArray⟩]
 have hz:(w2.alloc (.cells #[.int .i64 x0,.int .i64 f,.string ⟨x2.toArray⟩,.string ⟨x3.toArray⟩] 49)).heap.size=w2.heap.size+1:=Array.size_push ..
 have m4:=X3.cell 4 _ rfl
 have x40:=X4.cell 0 _ rfl
 have x41:=X4.cell 1 _ rfl
 have x42:=X4.cell 2 _ rfl
 have y40:=Y4.cell 0 _ rfl
 have y41:=Y4.cell 1 _ rfl
 have y42:=Y4.cell 2 _ rfl
 have y43:=Y4.cell 3 _ rfl
 have z40:=Z4.cell 0 _ rfl
 have z41:=Z4.cell 1 _ rfl
 have z42:=Z4.cell 2 _ rfl
 have z43:=Z4.cell 3 _ rfl
 go_wp2_with fail
 go_ret
 exact ⟨rfl,B4⟩
set_option maxHeartbeats 4000000 in
theorem rh_w1 (w:World) (f t:Int) (i j:Nat) (n:Nat) (bb off:Nat) (ch:Nat) (ih:n≤ch) (jh:ch≤9223372036854775807) (kh:n≤140737488351232)
 (a b:Nat) (y0:Int) (x2 x3 y3:List UInt8) (e1:(f==t)=false) (hi:i < n) (hj:j < n)
 (HP:Hid (∀ V,Below w.heap.size w V→V.cell? ⟨bb,off+i*4,none⟩=some (.int .i64 3)∧V.cell? ⟨bb,off+i*4+1,none⟩=some (.int .i64 f)∧V.cell? ⟨bb,off+i*4+2,none⟩=some (.string ⟨x2.toArray⟩)∧V.cell? ⟨bb,off+i*4+3,none⟩=some (.string ⟨x3.toArray⟩)))
 (HR:Hid (∀ V,Below w.heap.size w V→V.cell? ⟨bb,off+j*4,none⟩=some (.int .i64 y0)∧V.cell? ⟨bb,off+j*4+1,none⟩=some (.int .i64 t)∧V.cell? ⟨bb,off+j*4+2,none⟩=some (.string ⟨x2.toArray⟩)∧V.cell? ⟨bb,off+j*4+3,none⟩=some (.string ⟨y3.toArray⟩)))
 (D1:∀ W,Below w.heap.size w W→Calls Tryz.prog 47 #[.slice (some ⟨bb,off,none⟩) n ch,.int .i64 f] W fun e w'=>e=.returned (.int .i64 (a:Int))∧Below W.heap.size W w')
 (D2:∀ W,Below w.heap.size w W→Calls Tryz.prog 47 #[.slice (some ⟨bb,off,none⟩) n ch,.int .i64 t] W fun e w'=>e=.returned (.int .i64 (b:Int))∧Below W.heap.size W w')
 (v1:(y0==3)=false) :
 Calls Tryz.prog 39 #[.slice (some ⟨bb,off,none⟩) n ch,.agg #[.int .i64 1,.int .i64 f,.int .i64 t,.int .i64 (i:Int),.int .i64 (j:Int)]] w fun e w'=>e=.returned (.bool false)∧Below w.heap.size w w':=by
 have i1:¬ (a:Int) < 0:=by omega
 have i2:¬ (b:Int) < 0:=by omega
 have g2:¬ (i:Int) < 0:=by omega
 have g3:¬ (n:Int)≤(i:Int):=by omega
 have g4:¬ (j:Int) < 0:=by omega
 have g5:¬ (n:Int)≤(j:Int):=by omega
 have X0:=SBox.new w 71 #[.int .i64 1,.int .i64 f,.int .i64 t,.int .i64 (i:Int),.int .i64 (j:Int)]
 have B0:=(Below.refl w.heap.size w).alloc (Nat.le_refl _) (.cells #[.int .i64 1,.int .i64 f,.int .i64 t,.int .i64 (i:Int),.int .i64 (j:Int)] 71)
 go_enter Tryz.func39,Tryz.ntmps39
 have c1:(w.alloc (.cells #[.int .i64 1,.int .i64 f,.int .i64 t,.int .i64 (i:Int),.int .i64 (j:Int)] 71)).cell? ⟨w.heap.size,1,none⟩=some (.int .i64 f):=X0.cell 1 _ rfl
 go_wp2_with fail
 refine (D1 _ B0).mono ?_
 rintro e' w1 ⟨rfl,b1⟩
 have B1:=bel_trans B0 b1
 have X1:=X0.below b1
 have c2:w1.cell? ⟨w.heap.size,2,none⟩=some (.int .i64 t):=X1.cell 2 _ rfl
 clear c1
 go_wp2_with fail
 refine (D2 _ B1).mono ?_
 rintro e' w2 ⟨rfl,b2⟩
 have B2:=bel_trans B1 b2
 have X2:=X1.below b2
 clear c2
 have d0:w2.cell? ⟨w.heap.size,0,none⟩=some (.int .i64 1):=X2.cell 0 _ rfl
 have d1:w2.cell? ⟨w.heap.size,1,none⟩=some (.int .i64 f):=X2.cell 1 _ rfl
 have d2:w2.cell? ⟨w.heap.size,2,none⟩=some (.int .i64 t):=X2.cell 2 _ rfl
 have d3:w2.cell? ⟨w.heap.size,3,none⟩=some (.int .i64 (i:Int)):=X2.cell 3 _ rfl
 have d4:w2.cell? ⟨w.heap.size,4,none⟩=some (.int .i64 (j:Int)):=X2.cell 4 _ rfl
 obtain ⟨p0,p1,p2,p3⟩:=HP.out _ B2
 have B3:=B2.alloc B2.size (.cells #[.int .i64 3,.int .i64 f,.string ⟨x2.toArray⟩,.string ⟨x3.toArray⟩] 49)
 have B4:=B3.alloc B3.size (.cells #[.int .i64 y0,.int .i64 t,.string ⟨x2.toArray⟩,.string ⟨y3.toArray⟩] 49)
 have X4:=(X2.alloc (.cells #[.int .i64 3,.int .i64 f,.string ⟨x2.toArray⟩,.string ⟨x3.toArray⟩] 49)).alloc (.cells #[.int .i64 y0,.int .i64 t,.string ⟨x2.toArray⟩,.string ⟨y3.toArray⟩] 49)
 have Y4:=(SBox.new w2 49 #[.int .i64 3,.int .i64 f,.string ⟨x2.toArray⟩,.string ⟨x3.toArray⟩]).alloc (.cells #[.int .i64 y0,.int .i64 t,.string ⟨x2.toArray⟩,.string ⟨y3.toArray⟩] 49)
 obtain ⟨q0,q1,q2,q3⟩:=HR.out _ B3
 have X3:=X2.alloc (.cells #[.int .i64 3,.int .i64 f,.string ⟨x2.toArray⟩,.string ⟨x3.toArray⟩] 49)
 have Z4:=SBox.new (w2.alloc (.cells #[.int .i64 3,.int .i64 f,.string ⟨x2.toArray⟩,.string ⟨x3.toArray⟩] 49)) 49 #[.int .i64 y0,.int .i64 t,.string ⟨x2.toArray⟩,.string ⟨y3.toArray⟩]
 have hz:(w2.alloc (.cells #[.int .i64 3,.int .i64 f,.string ⟨x2.toArray⟩,.string ⟨x3.toArray⟩] 49)).heap.size=w2.heap.size+1:=Array.size_push ..
 have m4:=X3.cell 4 _ rfl
 have x40:=X4.cell 0 _ rfl
 have x41:=X4.cell 1 _ rfl
 have x42:=X4.cell 2 _ rfl
 have y40:=Y4.cell 0 _ rfl
 have y41:=Y4.cell 1 _ rfl
 have y42:=Y4.cell 2 _ rfl
 have y43:=Y4.cell 3 _ rfl
 have z40:=Z4.cell 0 _ rfl
 have z41:=Z4.cell 1 _ rfl
 have z42:=Z4.cell 2 _ rfl
 have z43:=Z4.cell 3 _ rfl
 go_wp2_with fail
 go_ret
 exact ⟨rfl,B4⟩
set_option maxHeartbeats 4000000 in
theorem rh_w2 (w:World) (f t:Int) (i j:Nat) (n:Nat) (bb off:Nat) (ch:Nat) (ih:n≤ch) (jh:ch≤9223372036854775807) (kh:n≤140737488351232)
 (a b:Nat)  (x2 x3 y3:List UInt8) (e1:(f==t)=false) (hi:i < n) (hj:j < n)
 (HP:Hid (∀ V,Below w.heap.size w V→V.cell? ⟨bb,off+i*4,none⟩=some (.int .i64 3)∧V.cell? ⟨bb,off+i*4+1,none⟩=some (.int .i64 f)∧V.cell? ⟨bb,off+i*4+2,none⟩=some (.string ⟨x2.toArray⟩)∧V.cell? ⟨bb,off+i*4+3,none⟩=some (.string ⟨x3.toArray⟩)))
 (HR:Hid (∀ V,Below w.heap.size w V→V.cell? ⟨bb,off+j*4,none⟩=some (.int .i64 3)∧V.cell? ⟨bb,off+j*4+1,none⟩=some (.int .i64 t)∧V.cell? ⟨bb,off+j*4+2,none⟩=some (.string ⟨x2.toArray⟩)∧V.cell? ⟨bb,off+j*4+3,none⟩=some (.string ⟨y3.toArray⟩)))
 (D1:∀ W,Below w.heap.size w W→Calls Tryz.prog 47 #[.slice (some ⟨bb,off,none⟩) n ch,.int .i64 f] W fun e w'=>e=.returned (.int .i64 (a:Int))∧Below W.heap.size W w')
 (D2:∀ W,Below w.heap.size w W→Calls Tryz.prog 47 #[.slice (some ⟨bb,off,none⟩) n ch,.int .i64 t] W fun e w'=>e=.returned (.int .i64 (b:Int))∧Below W.heap.size W w')
 (v2:¬ (a:Int) < (b:Int)) (v3:¬ a < b) :
 Calls Tryz.prog 39 #[.slice (some ⟨bb,off,none⟩) n ch,.agg #[.int .i64 1,.int .i64 f,.int .i64 t,.int .i64 (i:Int),.int .i64 (j:Int)]] w fun e w'=>e=.returned (.bool false)∧Below w.heap.size w w':=by
 have i1:¬ (a:Int) < 0:=by omega
 have i2:¬ (b:Int) < 0:=by omega
 have g2:¬ (i:Int) < 0:=by omega
 have g3:¬ (n:Int)≤(i:Int):=by omega
 have g4:¬ (j:Int) < 0:=by omega
 have g5:¬ (n:Int)≤(j:Int):=by omega
 have X0:=SBox.new w 71 #[.int .i64 1,.int .i64 f,.int .i64 t,.int .i64 (i:Int),.int .i64 (j:Int)]
 have B0:=(Below.refl w.heap.size w).alloc (Nat.le_refl _) (.cells #[.int .i64 1,.int .i64 f,.int .i64 t,.int .i64 (i:Int),.int .i64 (j:Int)] 71)
 go_enter Tryz.func39,Tryz.ntmps39
 have c1:(w.alloc (.cells #[.int .i64 1,.int .i64 f,.int .i64 t,.int .i64 (i:Int),.int .i64 (j:Int)] 71)).cell? ⟨w.heap.size,1,none⟩=some (.int .i64 f):=X0.cell 1 _ rfl
 go_wp2_with fail
 refine (D1 _ B0).mono ?_
 rintro e' w1 ⟨rfl,b1⟩
 have B1:=bel_trans B0 b1
 have X1:=X0.below b1
 have c2:w1.cell? ⟨w.heap.size,2,none⟩=some (.int .i64 t):=X1.cell 2 _ rfl
 clear c1
 go_wp2_with fail
 refine (D2 _ B1).mono ?_
 rintro e' w2 ⟨rfl,b2⟩
 have B2:=bel_trans B1 b2
 have X2:=X1.below b2
 clear c2
 have d0:w2.cell? ⟨w.heap.size,0,none⟩=some (.int .i64 1):=X2.cell 0 _ rfl
 have d1:w2.cell? ⟨w.heap.size,1,none⟩=some (.int .i64 f):=X2.cell 1 _ rfl
 have d2:w2.cell? ⟨w.heap.size,2,none⟩=some (.int .i64 t):=X2.cell 2 _ rfl
 have d3:w2.cell? ⟨w.heap.size,3,none⟩=some (.int .i64 (i:Int)):=X2.cell 3 _ rfl
 have d4:w2.cell? ⟨w.heap.size,4,none⟩=some (.int .i64 (j:Int)):=X2.cell 4 _ rfl
 obtain ⟨p0,p1,p2,p3⟩:=HP.out _ B2
 have B3:=B2.alloc B2.size (.cells #[.int .i64 3,.int .i64 f,.string ⟨x2.toArray⟩,.string ⟨x3.toArray⟩] 49)
 have B4:=B3.alloc B3.size (.cells #[.int .i64 3,.int .i64 t,.string ⟨x2.toArray⟩,.string ⟨y3.toArray⟩] 49)
 have X4:=(X2.alloc (.cells #[.int .i64 3,.int .i64 f,.string ⟨x2.toArray⟩,.string ⟨x3.toArray⟩] 49)).alloc (.cells #[.int .i64 3,.int .i64 t,.string ⟨x2.toArray⟩,.string ⟨y3.toArray⟩] 49)
 have Y4:=(SBox.new w2 49 #[.int .i64 3,.int .i64 f,.string ⟨x2.toArray⟩,.string ⟨x3.toArray⟩]).alloc (.cells #[.int .i64 3,.int .i64 t,.string ⟨x2.toArray⟩,.string ⟨y3.toArray⟩] 49)
 obtain ⟨q0,q1,q2,q3⟩:=HR.out _ B3
 have X3:=X2.alloc (.cells #[.int .i64 3,.int .i64 f,.string ⟨x2.toArray⟩,.string ⟨x3.toArray⟩] 49)
 have Z4:=SBox.new (w2.alloc (.cells #[.int .i64 3,.int .i64 f,.string ⟨x2.toArray⟩,.string ⟨x3.toArray⟩] 49)) 49 #[.int .i64 3,.int .i64 t,.string ⟨x2.toArray⟩,.string ⟨y3.toArray⟩]
 have hz:(w2.alloc (.cells #[.int .i64 3,.int .i64 f,.string ⟨x2.toArray⟩,.string ⟨x3.toArray⟩] 49)).heap.size=w2.heap.size+1:=Array.size_push ..
 have m4:=X3.cell 4 _ rfl
 have x40:=X4.cell 0 _ rfl
 have x41:=X4.cell 1 _ rfl
 have x42:=X4.cell 2 _ rfl
 have y40:=Y4.cell 0 _ rfl
 have y41:=Y4.cell 1 _ rfl
 have y42:=Y4.cell 2 _ rfl
 have y43:=Y4.cell 3 _ rfl
 have z40:=Z4.cell 0 _ rfl
 have z41:=Z4.cell 1 _ rfl
 have z42:=Z4.cell 2 _ rfl
 have z43:=Z4.cell 3 _ rfl
 go_wp2_with fail
 go_ret
 exact ⟨rfl,B4⟩
set_option maxHeartbeats 4000000 in
theorem rh_w3 (w:World) (f t:Int) (i j:Nat) (n:Nat) (bb off:Nat) (ch:Nat) (ih:n≤ch) (jh:ch≤9223372036854775807) (kh:n≤140737488351232)
 (a b:Nat)  (x2 x3 y3:List UInt8) (e1:(f==t)=false) (hi:i < n) (hj:j < n)
 (HP:Hid (∀ V,Below w.heap.size w V→V.cell? ⟨bb,off+i*4,none⟩=some (.int .i64 3)∧V.cell? ⟨bb,off+i*4+1,none⟩=some (.int .i64 f)∧V.cell? ⟨bb,off+i*4+2,none⟩=some (.string ⟨x2.toArray⟩)∧V.cell? ⟨bb,off+i*4+3,none⟩=some (.string ⟨x3.toArray⟩)))
 (HR:Hid (∀ V,Below w.heap.size w V→V.cell? ⟨bb,off+j*4,none⟩=some (.int .i64 3)∧V.cell? ⟨bb,off+j*4+1,none⟩=some (.int .i64 t)∧V.cell? ⟨bb,off+j*4+2,none⟩=some (.string ⟨x2.toArray⟩)∧V.cell? ⟨bb,off+j*4+3,none⟩=some (.string ⟨y3.toArray⟩)))
 (D1:∀ W,Below w.heap.size w W→Calls Tryz.prog 47 #[.slice (some ⟨bb,off,none⟩) n ch,.int .i64 f] W fun e w'=>e=.returned (.int .i64 (a:Int))∧Below W.heap.size W w')
 (D2:∀ W,Below w.heap.size w W→Calls Tryz.prog 47 #[.slice (some ⟨bb,off,none⟩) n ch,.int .i64 t] W fun e w'=>e=.returned (.int .i64 (b:Int))∧Below W.heap.size W w')
 (v2:(a:Int) < (b:Int)) (v3:a < b) :
 Calls Tryz.prog 39 #[.slice (some ⟨bb,off,none⟩) n ch,.agg #[.int .i64 1,.int .i64 f,.int .i64 t,.int .i64 (i:Int),.int .i64 (j:Int)]] w fun e w'=>e=.returned (.bool true)∧Below w.heap.size w w':=by
 have i1:¬ (a:Int) < 0:=by omega
 have i2:¬ (b:Int) < 0:=by omega
 have g2:¬ (i:Int) < 0:=by omega
 have g3:¬ (n:Int)≤(i:Int):=by omega
 have g4:¬ (j:Int) < 0:=by omega
 have g5:¬ (n:Int)≤(j:Int):=by omega
 have X0:=SBox.new w 71 #[.int .i64 1,.int .i64 f,.int .i64 t,.int .i64 (i:Int),.int .i64 (j:Int)]
 have B0:=(Below.refl w.heap.size w).alloc (Nat.le_refl _) (.cells #[.int .i64 1,.int .i64 f,.int .i64 t,.int .i64 (i:Int),.int .i64 (j:Int)] 71)
 go_enter Tryz.func39,Tryz.ntmps39
 have c1:(w.alloc (.cells #[.int .i64 1,.int .i64 f,.int .i64 t,.int .i64 (i:Int),.int .i64 (j:Int)] 71)).cell? ⟨w.heap.size,1,none⟩=some (.int .i64 f):=X0.cell 1 _ rfl
 go_wp2_with fail
 refine (D1 _ B0).mono ?_
 rintro e' w1 ⟨rfl,b1⟩
 have B1:=bel_trans B0 b1
 have X1:=X0.below b1
 have c2:w1.cell? ⟨w.heap.size,2,none⟩=some (.int .i64 t):=X1.cell 2 _ rfl
 clear c1
 go_wp2_with fail
 refine (D2 _ B1).mono ?_
 rintro e' w2 ⟨rfl,b2⟩
 have B2:=bel_trans B1 b2
 have X2:=X1.below b2
 clear c2
 have d0:w2.cell? ⟨w.heap.size,0,none⟩=some (.int .i64 1):=X2.cell 0 _ rfl
 have d1:w2.cell? ⟨w.heap.size,1,none⟩=some (.int .i64 f):=X2.cell 1 _ rfl
 have d2:w2.cell? ⟨w.heap.size,2,none⟩=some (.int .i64 t):=X2.cell 2 _ rfl
 have d3:w2.cell? ⟨w.heap.size,3,none⟩=some (.int .i64 (i:Int)):=X2.cell 3 _ rfl
 have d4:w2.cell? ⟨w.heap.size,4,none⟩=some (.int .i64 (j:Int)):=X2.cell 4 _ rfl
 obtain ⟨p0,p1,p2,p3⟩:=HP.out _ B2
 have B3:=B2.alloc B2.size (.cells #[.int .i64 3,.int .i64 f,.string ⟨x2.toArray⟩,.string ⟨x3.toArray⟩] 49)
 have B4:=B3.alloc B3.size (.cells #[.int .i64 3,.int .i64 t,.string ⟨x2.toArray⟩,.string ⟨y3.toArray⟩] 49)
 have X4:=(X2.alloc (.cells #[.int .i64 3,.int .i64 f,.string ⟨x2.toArray⟩,.string ⟨x3.toArray⟩] 49)).alloc (.cells #[.int .i64 3,.int .i64 t,.string ⟨x2.toArray⟩,.string ⟨y3.toArray⟩] 49)
 have Y4:=(SBox.new w2 49 #[.int .i64 3,.int .i64 f,.string ⟨x2.toArray⟩,.string ⟨x3.toArray⟩]).alloc (.cells #[.int .i64 3,.int .i64 t,.string ⟨x2.toArray⟩,.string ⟨y3.toArray⟩] 49)
 obtain ⟨q0,q1,q2,q3⟩:=HR.out _ B3
 have X3:=X2.alloc (.cells #[.int .i64 3,.int .i64 f,.string ⟨x2.toArray⟩,.string ⟨x3.toArray⟩] 49)
 have Z4:=SBox.new (w2.alloc (.cells #[.int .i64 3,.int .i64 f,.string ⟨x2.toArray⟩,.string ⟨x3.toArray⟩] 49)) 49 #[.int .i64 3,.int .i64 t,.string ⟨x2.toArray⟩,.string ⟨y3.toArray⟩]
 have hz:(w2.alloc (.cells #[.int .i64 3,.int .i64 f,.string ⟨x2.toArray⟩,.string ⟨x3.toArray⟩] 49)).heap.size=w2.heap.size+1:=Array.size_push ..
 have m4:=X3.cell 4 _ rfl
 have x40:=X4.cell 0 _ rfl
 have x41:=X4.cell 1 _ rfl
 have x42:=X4.cell 2 _ rfl
 have y40:=Y4.cell 0 _ rfl
 have y41:=Y4.cell 1 _ rfl
 have y42:=Y4.cell 2 _ rfl
 have y43:=Y4.cell 3 _ rfl
 have z40:=Z4.cell 0 _ rfl
 have z41:=Z4.cell 1 _ rfl
 have z42:=Z4.cell 2 _ rfl
 have z43:=Z4.cell 3 _ rfl
 go_wp2_with fail
 go_ret
 exact ⟨rfl,B4⟩
set_option maxHeartbeats 4000000 in
theorem rh_r0 (w:World) (f t:Int) (i j:Nat) (n:Nat) (bb off:Nat) (ch:Nat) (ih:n≤ch) (jh:ch≤9223372036854775807) (kh:n≤140737488351232)
 (a b:Nat) (x0 y0:Int) (x2 x3 y3:List UInt8) (e1:(f==t)=false) (hi:i < n) (hj:j < n)
 (HP:Hid (∀ V,Below w.heap.size w V→V.cell? ⟨bb,off+i*4,none⟩=some (.int .i64 x0)∧V.cell? ⟨bb,off+i*4+1,none⟩=some (.int .i64 f)∧V.cell? ⟨bb,off+i*4+2,none⟩=some (.string ⟨x2.toArray⟩)∧V.cell? ⟨bb,off+i*4+3,none⟩=some (.string ⟨x3.toArray⟩)))
 (HR:Hid (∀ V,Below w.heap.size w V→V.cell? ⟨bb,off+j*4,none⟩=some (.int .i64 y0)∧V.cell? ⟨bb,off+j*4+1,none⟩=some (.int .i64 t)∧V.cell? ⟨bb,off+j*4+2,none⟩=some (.string ⟨x2.toArray⟩)∧V.cell? ⟨bb,off+j*4+3,none⟩=some (.string ⟨y3.toArray⟩)))
 (D1:∀ W,Below w.heap.size w W→Calls Tryz.prog 47 #[.slice (some ⟨bb,off,none⟩) n ch,.int .i64 f] W fun e w'=>e=.returned (.int .i64 (a:Int))∧Below W.heap.size W w')
 (D2:∀ W,Below w.heap.size w W→Calls Tryz.prog 47 #[.slice (some ⟨bb,off,none⟩) n ch,.int .i64 t] W fun e w'=>e=.returned (.int .i64 (b:Int))∧Below W.heap.size W w')
 (v0:(x0==3)=false) :
 Calls Tryz.prog 39 #[.slice (some ⟨bb,off,none⟩) n ch,.agg #[.int .i64 2,.int .i64 f,.int .i64 t,.int .i64 (i:Int),.int .i64 (j:Int)]] w fun e w'=>e=.returned (.bool false)∧Below w.heap.size w w':=by
 have i1:¬ (a:Int) < 0:=by omega
 have i2:¬ (b:Int) < 0:=by omega
 have g2:¬ (i:Int) < 0:=by omega
 have g3:¬ (n:Int)≤(i:Int):=by omega
 have g4:¬ (j:Int) < 0:=by omega
 have g5:¬ (n:Int)≤(j:Int):=by omega
 have X0:=SBox.new w 71 #[.int .i64 2,.int .i64 f,.int .i64 t,.int .i64 (i:Int),.int .i64 (j:Int)]
 have B0:=(Below.refl w.heap.size w).alloc (Nat.le_refl _) (.cells #[.int .i64 2,.int .i64 f,.int .i64 t,.int .i64 (i:Int),.int .i64 (j:Int)] 71)
 go_enter Tryz.func39,Tryz.ntmps39
 have c1:(w.alloc (.cells #[.int .i64 2,.int .i64 f,.int .i64 t,.int .i64 (i:Int),.int .i64 (j:Int)] 71)).cell? ⟨w.heap.size,1,none⟩=some (.int .i64 f):=X0.cell 1 _ rfl
 go_wp2_with fail
 refine (D1 _ B0).mono ?_
 rintro e' w1 ⟨rfl,b1⟩
 have B1:=bel_trans B0 b1
 have X1:=X0.below b1
 have c2:w1.cell? ⟨w.heap.size,2,none⟩=some (.int .i64 t):=X1.cell 2 _ rfl
 clear c1
 go_wp2_with fail
 refine (D2 _ B1).mono ?_
 rintro e' w2 ⟨rfl,b2⟩
 have B2:=bel_trans B1 b2
 have X2:=X1.below b2
 clear c2
 have d0:w2.cell? ⟨w.heap.size,0,none⟩=some (.int .i64 2):=X2.cell 0 _ rfl
 have d1:w2.cell? ⟨w.heap.size,1,none⟩=some (.int .i64 f):=X2.cell 1 _ rfl
 have d2:w2.cell? ⟨w.heap.size,2,none⟩=some (.int .i64 t):=X2.cell 2 _ rfl
 have d3:w2.cell? ⟨w.heap.size,3,none⟩=some (.int .i64 (i:Int)):=X2.cell 3 _ rfl
 have d4:w2.cell? ⟨w.heap.size,4,none⟩=some (.int .i64 (j:Int)):=X2.cell 4 _ rfl
 obtain ⟨p0,p1,p2,p3⟩:=HP.out _ B2
 have B3:=B2.alloc B2.size (.cells #[.int .i64 x0,.int .i64 f,.string ⟨x2.toArray⟩,.string ⟨x3.toArray⟩] 49)
 have B4:=B3.alloc B3.size (.cells #[.int .i64 y0,.int .i64 t,.string ⟨x2.toArray⟩,.string ⟨y3.toArray⟩] 49)
 have X4:=(X2.alloc (.cells #[.int .i64 x0,.int .i64 f,.string ⟨x2.toArray⟩,.string ⟨x3.toArray⟩] 49)).alloc (.cells #[.int .i64 y0,.int .i64 t,.string ⟨x2.toArray⟩,.string ⟨y3.toArray⟩] 49)
 have Y4:=(SBox.new w2 49 #[.int .i64 x0,.int .i64 f,.string ⟨x2.toArray⟩,.string ⟨x3.toArray⟩]).alloc (.cells #[.int .i64 y0,.int .i64 t,.string ⟨x2.toArray⟩,.string ⟨y3.toArray⟩] 49)
 obtain ⟨q0,q1,q2,q3⟩:=HR.out _ B3
 have X3:=X2.alloc (.cells #[.int .i64 x0,.int .i64 f,.string ⟨x2.toArray⟩,.string ⟨x3.toArray⟩] 49)
 have Z4:=SBox.new (w2.alloc (.cells #[.int .i64 x0,.int .i64 f,.string ⟨x2.toArray⟩,.string ⟨x3.toArray⟩] 49)) 49 #[.int .i64 y0,.int .i64 t,.string ⟨x2.toArray⟩,.string ⟨y3.toArray⟩]
 have hz:(w2.alloc (.cells #[.int .i64 x0,.int .i64 f,.string ⟨x2.toArray⟩,.string ⟨x3.toArray⟩] 49)).heap.size=w2.heap.size+1:=Array.size_push ..
 have m4:=X3.cell 4 _ rfl
 have x40:=X4.cell 0 _ rfl
 have x41:=X4.cell 1 _ rfl
 have x42:=X4.cell 2 _ rfl
 have y40:=Y4.cell 0 _ rfl
 have y41:=Y4.cell 1 _ rfl
 have y42:=Y4.cell 2 _ rfl
 have y43:=Y4.cell 3 _ rfl
 have z40:=Z4.cell 0 _ rfl
 have z41:=Z4.cell 1 _ rfl
 have z42:=Z4.cell 2 _ rfl
 have z43:=Z4.cell 3 _ rfl
 go_wp2_with fail
 go_ret
 exact ⟨rfl,B4⟩
set_option maxHeartbeats 4000000 in
theorem rh_r1 (w:World) (f t:Int) (i j:Nat) (n:Nat) (bb off:Nat) (ch:Nat) (ih:n≤ch) (jh:ch≤9223372036854775807) (kh:n≤140737488351232)
 (a b:Nat) (y0:Int) (x2 x3 y3:List UInt8) (e1:(f==t)=false) (hi:i < n) (hj:j < n)
 (HP:Hid (∀ V,Below w.heap.size w V→V.cell? ⟨bb,off+i*4,none⟩=some (.int .i64 3)∧V.cell? ⟨bb,off+i*4+1,none⟩=some (.int .i64 f)∧V.cell? ⟨bb,off+i*4+2,none⟩=some (.string ⟨x2.toArray⟩)∧V.cell? ⟨bb,off+i*4+3,none⟩=some (.string ⟨x3.toArray⟩)))
 (HR:Hid (∀ V,Below w.heap.size w V→V.cell? ⟨bb,off+j*4,none⟩=some (.int .i64 y0)∧V.cell? ⟨bb,off+j*4+1,none⟩=some (.int .i64 t)∧V.cell? ⟨bb,off+j*4+2,none⟩=some (.string ⟨x2.toArray⟩)∧V.cell? ⟨bb,off+j*4+3,none⟩=some (.string ⟨y3.toArray⟩)))
 (D1:∀ W,Below w.heap.size w W→Calls Tryz.prog 47 #[.slice (some ⟨bb,off,none⟩) n ch,.int .i64 f] W fun e w'=>e=.returned (.int .i64 (a:Int))∧Below W.heap.size W w')
 (D2:∀ W,Below w.heap.size w W→Calls Tryz.prog 47 #[.slice (some ⟨bb,off,none⟩) n ch,.int .i64 t] W fun e w'=>e=.returned (.int .i64 (b:Int))∧Below W.heap.size W w')
 (v1:(y0==2)=false) :
 Calls Tryz.prog 39 #[.slice (some ⟨bb,off,none⟩) n ch,.agg #[.int .i64 2,.int .i64 f,.int .i64 t,.int .i64 (i:Int),.int .i64 (j:Int)]] w fun e w'=>e=.returned (.bool false)∧Below w.heap.size w w':=by
 have i1:¬ (a:Int) < 0:=by omega
 have i2:¬ (b:Int) < 0:=by omega
 have g2:¬ (i:Int) < 0:=by omega
 have g3:¬ (n:Int)≤(i:Int):=by omega
 have g4:¬ (j:Int) < 0:=by omega
 have g5:¬ (n:Int)≤(j:Int):=by omega
 have X0:=SBox.new w 71 #[.int .i64 2,.int .i64 f,.int .i64 t,.int .i64 (i:Int),.int .i64 (j:Int)]
 have B0:=(Below.refl w.heap.size w).alloc (Nat.le_refl _) (.cells #[.int .i64 2,.int .i64 f,.int .i64 t,.int .i64 (i:Int),.int .i64 (j:Int)] 71)
 go_enter Tryz.func39,Tryz.ntmps39
 have c1:(w.alloc (.cells #[.int .i64 2,.int .i64 f,.int .i64 t,.int .i64 (i:Int),.int .i64 (j:Int)] 71)).cell? ⟨w.heap.size,1,none⟩=some (.int .i64 f):=X0.cell 1 _ rfl
 go_wp2_with fail
 refine (D1 _ B0).mono ?_
 rintro e' w1 ⟨rfl,b1⟩
 have B1:=bel_trans B0 b1
 have X1:=X0.below b1
 have c2:w1.cell? ⟨w.heap.size,2,none⟩=some (.int .i64 t):=X1.cell 2 _ rfl
 clear c1
 go_wp2_with fail
 refine (D2 _ B1).mono ?_
 rintro e' w2 ⟨rfl,b2⟩
 have B2:=bel_trans B1 b2
 have X2:=X1.below b2
 clear c2
 have d0:w2.cell? ⟨w.heap.size,0,none⟩=some (.int .i64 2):=X2.cell 0 _ rfl
 have d1:w2.cell? ⟨w.heap.size,1,none⟩=some (.int .i64 f):=X2.cell 1 _ rfl
 have d2:w2.cell? ⟨w.heap.size,2,none⟩=some (.int .i64 t):=X2.cell 2 _ rfl
 have d3:w2.cell? ⟨w.heap.size,3,none⟩=some (.int .i64 (i:Int)):=X2.cell 3 _ rfl
 have d4:w2.cell? ⟨w.heap.size,4,none⟩=some (.int .i64 (j:Int)):=X2.cell 4 _ rfl
 obtain ⟨p0,p1,p2,p3⟩:=HP.out _ B2
 have B3:=B2.alloc B2.size (.cells #[.int .i64 3,.int .i64 f,.string ⟨x2.toArray⟩,.string ⟨x3.toArray⟩] 49)
 have B4:=B3.alloc B3.size (.cells #[.int .i64 y0,.int .i64 t,.string ⟨x2.toArray⟩,.string ⟨y3.toArray⟩] 49)
 have X4:=(X2.alloc (.cells #[.int .i64 3,.int .i64 f,.string ⟨x2.toArray⟩,.string ⟨x3.toArray⟩] 49)).alloc (.cells #[.int .i64 y0,.int .i64 t,.string ⟨x2.toArray⟩,.string ⟨y3.toArray⟩] 49)
 have Y4:=(SBox.new w2 49 #[.int .i64 3,.int .i64 f,.string ⟨x2.toArray⟩,.string ⟨x3.toArray⟩]).alloc (.cells #[.int .i64 y0,.int .i64 t,.string ⟨x2.toArray⟩,.string ⟨y3.toArray⟩] 49)
 obtain ⟨q0,q1,q2,q3⟩:=HR.out _ B3
 have X3:=X2.alloc (.cells #[.int .i64 3,.int .i64 f,.string ⟨x2.toArray⟩,.string ⟨x3.toArray⟩] 49)
 have Z4:=SBox.new (w2.alloc (.cells #[.int .i64 3,.int .i64 f,.string ⟨x2.toArray⟩,.string ⟨x3.toArray⟩] 49)) 49 #[.int .i64 y0,.int .i64 t,.string ⟨x2.toArray⟩,.string ⟨y3.toArray⟩]
 have hz:(w2.alloc (.cells #[.int .i64 3,.int .i64 f,.string ⟨x2.toArray⟩,.string ⟨x3.toArray⟩] 49)).heap.size=w2.heap.size+1:=Array.size_push ..
 have m4:=X3.cell 4 _ rfl
 have x40:=X4.cell 0 _ rfl
 have x41:=X4.cell 1 _ rfl
 have x42:=X4.cell 2 _ rfl
 have y40:=Y4.cell 0 _ rfl
 have y41:=Y4.cell 1 _ rfl
 have y42:=Y4.cell 2 _ rfl
 have y43:=Y4.cell 3 _ rfl
 have z40:=Z4.cell 0 _ rfl
 have z41:=Z4.cell 1 _ rfl
 have z42:=Z4.cell 2 _ rfl
 have z43:=Z4.cell 3 _ rfl
 go_wp2_with fail
 go_ret
 exact ⟨rfl,B4⟩
set_option maxHeartbeats 4000000 in
theorem rh_r2 (w:World) (f t:Int) (i j:Nat) (n:Nat) (bb off:Nat) (ch:Nat) (ih:n≤ch) (jh:ch≤9223372036854775807) (kh:n≤140737488351232)
 (a b:Nat)  (x2 x3 y3:List UInt8) (e1:(f==t)=false) (hi:i < n) (hj:j < n)
 (HP:Hid (∀ V,Below w.heap.size w V→V.cell? ⟨bb,off+i*4,none⟩=some (.int .i64 3)∧V.cell? ⟨bb,off+i*4+1,none⟩=some (.int .i64 f)∧V.cell? ⟨bb,off+i*4+2,none⟩=some (.string ⟨x2.toArray⟩)∧V.cell? ⟨bb,off+i*4+3,none⟩=some (.string ⟨x3.toArray⟩)))
 (HR:Hid (∀ V,Below w.heap.size w V→V.cell? ⟨bb,off+j*4,none⟩=some (.int .i64 2)∧V.cell? ⟨bb,off+j*4+1,none⟩=some (.int .i64 t)∧V.cell? ⟨bb,off+j*4+2,none⟩=some (.string ⟨x2.toArray⟩)∧V.cell? ⟨bb,off+j*4+3,none⟩=some (.string ⟨y3.toArray⟩)))
 (D1:∀ W,Below w.heap.size w W→Calls Tryz.prog 47 #[.slice (some ⟨bb,off,none⟩) n ch,.int .i64 f] W fun e w'=>e=.returned (.int .i64 (a:Int))∧Below W.heap.size W w')
 (D2:∀ W,Below w.heap.size w W→Calls Tryz.prog 47 #[.slice (some ⟨bb,off,none⟩) n ch,.int .i64 t] W fun e w'=>e=.returned (.int .i64 (b:Int))∧Below W.heap.size W w')
 (v2:(x3==y3)=false) :
 Calls Tryz.prog 39 #[.slice (some ⟨bb,off,none⟩) n ch,.agg #[.int .i64 2,.int .i64 f,.int .i64 t,.int .i64 (i:Int),.int .i64 (j:Int)]] w fun e w'=>e=.returned (.bool false)∧Below w.heap.size w w':=by
 have i1:¬ (a:Int) < 0:=by omega
 have i2:¬ (b:Int) < 0:=by omega
 have g2:¬ (i:Int) < 0:=by omega
 have g3:¬ (n:Int)≤(i:Int):=by omega
 have g4:¬ (j:Int) < 0:=by omega
 have g5:¬ (n:Int)≤(j:Int):=by omega
 have X0:=SBox.new w 71 #[.int .i64 2,.int .i64 f,.int .i64 t,.int .i64 (i:Int),.int .i64 (j:Int)]
 have B0:=(Below.refl w.heap.size w).alloc (Nat.le_refl _) (.cells #[.int .i64 2,.int .i64 f,.int .i64 t,.int .i64 (i:Int),.int .i64 (j:Int)] 71)
 go_enter Tryz.func39,Tryz.ntmps39
 have c1:(w.alloc (.cells #[.int .i64 2,.int .i64 f,.int .i64 t,.int .i64 (i:Int),.int .i64 (j:Int)] 71)).cell? ⟨w.heap.size,1,none⟩=some (.int .i64 f):=X0.cell 1 _ rfl
 go_wp2_with fail
 refine (D1 _ B0).mono ?_
 rintro e' w1 ⟨rfl,b1⟩
 have B1:=bel_trans B0 b1
 have X1:=X0.below b1
 have c2:w1.cell? ⟨w.heap.size,2,none⟩=some (.int .i64 t):=X1.cell 2 _ rfl
 clear c1
 go_wp2_with fail
 refine (D2 _ B1).mono ?_
 rintro e' w2 ⟨rfl,b2⟩
 have B2:=bel_trans B1 b2
 have X2:=X1.below b2
 clear c2
 have d0:w2.cell? ⟨w.heap.size,0,none⟩=some (.int .i64 2):=X2.cell 0 _ rfl
 have d1:w2.cell? ⟨w.heap.size,1,none⟩=some (.int .i64 f):=X2.cell 1 _ rfl
 have d2:w2.cell? ⟨w.heap.size,2,none⟩=some (.int .i64 t):=X2.cell 2 _ rfl
 have d3:w2.cell? ⟨w.heap.size,3,none⟩=some (.int .i64 (i:Int)):=X2.cell 3 _ rfl
 have d4:w2.cell? ⟨w.heap.size,4,none⟩=some (.int .i64 (j:Int)):=X2.cell 4 _ rfl
 obtain ⟨p0,p1,p2,p3⟩:=HP.out _ B2
 have B3:=B2.alloc B2.size (.cells #[.int .i64 3,.int .i64 f,.string ⟨x2.toArray⟩,.string ⟨x3.toArray⟩] 49)
 have B4:=B3.alloc B3.size (.cells #[.int .i64 2,.int .i64 t,.string ⟨x2.toArray⟩,.string ⟨y3.toArray⟩] 49)
 have X4:=(X2.alloc (.cells #[.int .i64 3,.int .i64 f,.string ⟨x2.toArray⟩,.string ⟨x3.toArray⟩] 49)).alloc (.cells #[.int .i64 2,.int .i64 t,.string ⟨x2.toArray⟩,.string ⟨y3.toArray⟩] 49)
 have Y4:=(SBox.new w2 49 #[.int .i64 3,.int .i64 f,.string ⟨x2.toArray⟩,.string ⟨x3.toArray⟩]).alloc (.cells #[.int .i64 2,.int .i64 t,.string ⟨x2.toArray⟩,.string ⟨y3.toArray⟩] 49)
 obtain ⟨q0,q1,q2,q3⟩:=HR.out _ B3
 have X3:=X2.alloc (.cells #[.int .i64 3,.int .i64 f,.string ⟨x2.toArray⟩,.string ⟨x3.toArray⟩] 49)
 have Z4:=SBox.new (w2.alloc (.cells #[.int .i64 3,.int .i64 f,.string ⟨x2.toArray⟩,.string ⟨x3.toArray⟩] 49)) 49 #[.int .i64 2,.int .i64 t,.string ⟨x2.toArray⟩,.string ⟨y3.toArray⟩]
 have hz:(w2.alloc (.cells #[.int .i64 3,.int .i64 f,.string ⟨x2.toArray⟩,.string ⟨x3.toArray⟩] 49)).heap.size=w2.heap.size+1:=Array.size_push ..
 have m4:=X3.cell 4 _ rfl
 have x40:=X4.cell 0 _ rfl
 have x41:=X4.cell 1 _ rfl
 have x42:=X4.cell 2 _ rfl
 have y40:=Y4.cell 0 _ rfl
 have y41:=Y4.cell 1 _ rfl
 have y42:=Y4.cell 2 _ rfl
 have y43:=Y4.cell 3 _ rfl
 have z40:=Z4.cell 0 _ rfl
 have z41:=Z4.cell 1 _ rfl
 have z42:=Z4.cell 2 _ rfl
 have z43:=Z4.cell 3 _ rfl
 go_wp2_with fail
 go_ret
 exact ⟨rfl,B4⟩
set_option maxHeartbeats 4000000 in
theorem rh_r3 (w:World) (f t:Int) (i j:Nat) (n:Nat) (bb off:Nat) (ch:Nat) (ih:n≤ch) (jh:ch≤9223372036854775807) (kh:n≤140737488351232)
 (a b:Nat)  (x2 x3:List UInt8) (e1:(f==t)=false) (hi:i < n) (hj:j < n)
 (HP:Hid (∀ V,Below w.heap.size w V→V.cell? ⟨bb,off+i*4,none⟩=some (.int .i64 3)∧V.cell? ⟨bb,off+i*4+1,none⟩=some (.int .i64 f)∧V.cell? ⟨bb,off+i*4+2,none⟩=some (.string ⟨x2.toArray⟩)∧V.cell? ⟨bb,off+i*4+3,none⟩=some (.string ⟨x3.toArray⟩)))
 (HR:Hid (∀ V,Below w.heap.size w V→V.cell? ⟨bb,off+j*4,none⟩=some (.int .i64 2)∧V.cell? ⟨bb,off+j*4+1,none⟩=some (.int .i64 t)∧V.cell? ⟨bb,off+j*4+2,none⟩=some (.string ⟨x2.toArray⟩)∧V.cell? ⟨bb,off+j*4+3,none⟩=some (.string ⟨x3.toArray⟩)))
 (D1:∀ W,Below w.heap.size w W→Calls Tryz.prog 47 #[.slice (some ⟨bb,off,none⟩) n ch,.int .i64 f] W fun e w'=>e=.returned (.int .i64 (a:Int))∧Below W.heap.size W w')
 (D2:∀ W,Below w.heap.size w W→Calls Tryz.prog 47 #[.slice (some ⟨bb,off,none⟩) n ch,.int .i64 t] W fun e w'=>e=.returned (.int .i64 (b:Int))∧Below W.heap.size W w')
  :
 Calls Tryz.prog 39 #[.slice (some ⟨bb,off,none⟩) n ch,.agg #[.int .i64 2,.int .i64 f,.int .i64 t,.int .i64 (i:Int),.int .i64 (j:Int)]] w fun e w'=>e=.returned (.bool true)∧Below w.heap.size w w':=by
 have i1:¬ (a:Int) < 0:=by omega
 have i2:¬ (b:Int) < 0:=by omega
 have g2:¬ (i:Int) < 0:=by omega
 have g3:¬ (n:Int)≤(i:Int):=by omega
 have g4:¬ (j:Int) < 0:=by omega
 have g5:¬ (n:Int)≤(j:Int):=by omega
 have X0:=SBox.new w 71 #[.int .i64 2,.int .i64 f,.int .i64 t,.int .i64 (i:Int),.int .i64 (j:Int)]
 have B0:=(Below.refl w.heap.size w).alloc (Nat.le_refl _) (.cells #[.int .i64 2,.int .i64 f,.int .i64 t,.int .i64 (i:Int),.int .i64 (j:Int)] 71)
 go_enter Tryz.func39,Tryz.ntmps39
 have c1:(w.alloc (.cells #[.int .i64 2,.int .i64 f,.int .i64 t,.int .i64 (i:Int),.int .i64 (j:Int)] 71)).cell? ⟨w.heap.size,1,none⟩=some (.int .i64 f):=X0.cell 1 _ rfl
 go_wp2_with fail
 refine (D1 _ B0).mono ?_
 rintro e' w1 ⟨rfl,b1⟩
 have B1:=bel_trans B0 b1
 have X1:=X0.below b1
 have c2:w1.cell? ⟨w.heap.size,2,none⟩=some (.int .i64 t):=X1.cell 2 _ rfl
 clear c1
 go_wp2_with fail
 refine (D2 _ B1).mono ?_
 rintro e' w2 ⟨rfl,b2⟩
 have B2:=bel_trans B1 b2
 have X2:=X1.below b2
 clear c2
 have d0:w2.cell? ⟨w.heap.size,0,none⟩=some (.int .i64 2):=X2.cell 0 _ rfl
 have d1:w2.cell? ⟨w.heap.size,1,none⟩=some (.int .i64 f):=X2.cell 1 _ rfl
 have d2:w2.cell? ⟨w.heap.size,2,none⟩=some (.int .i64 t):=X2.cell 2 _ rfl
 have d3:w2.cell? ⟨w.heap.size,3,none⟩=some (.int .i64 (i:Int)):=X2.cell 3 _ rfl
 have d4:w2.cell? ⟨w.heap.size,4,none⟩=some (.int .i64 (j:Int)):=X2.cell 4 _ rfl
 obtain ⟨p0,p1,p2,p3⟩:=HP.out _ B2
 have B3:=B2.alloc B2.size (.cells #[.int .i64 3,.int .i64 f,.string ⟨x2.toArray⟩,.string ⟨x3.toArray⟩] 49)
 have B4:=B3.alloc B3.size (.cells #[.int .i64 2,.int .i64 t,.string ⟨x2.toArray⟩,.string ⟨x3.toArray⟩] 49)
 have X4:=(X2.alloc (.cells #[.int .i64 3,.int .i64 f,.string ⟨x2.toArray⟩,.string ⟨x3.toArray⟩] 49)).alloc (.cells #[.int .i64 2,.int .i64 t,.string ⟨x2.toArray⟩,.string ⟨x3.toArray⟩] 49)
 have Y4:=(SBox.new w2 49 #[.int .i64 3,.int .i64 f,.string ⟨x2.toArray⟩,.string ⟨x3.toArray⟩]).alloc (.cells #[.int .i64 2,.int .i64 t,.string ⟨x2.toArray⟩,.string ⟨x3.toArray⟩] 49)
 obtain ⟨q0,q1,q2,q3⟩:=HR.out _ B3
 have X3:=X2.alloc (.cells #[.int .i64 3,.int .i64 f,.string ⟨x2.toArray⟩,.string ⟨x3.toArray⟩] 49)
 have Z4:=SBox.new (w2.alloc (.cells #[.int .i64 3,.int .i64 f,.string ⟨x2.toArray⟩,.string ⟨x3.toArray⟩] 49)) 49 #[.int .i64 2,.int .i64 t,.string ⟨x2.toArray⟩,.string ⟨x3.toArray⟩]
 have hz:(w2.alloc (.cells #[.int .i64 3,.int .i64 f,.string ⟨x2.toArray⟩,.string ⟨x3.toArray⟩] 49)).heap.size=w2.heap.size+1:=Array.size_push ..
 have m4:=X3.cell 4 _ rfl
 have x40:=X4.cell 0 _ rfl
 have x41:=X4.cell 1 _ rfl
 have x42:=X4.cell 2 _ rfl
 have y40:=Y4.cell 0 _ rfl
 have y41:=Y4.cell 1 _ rfl
 have y42:=Y4.cell 2 _ rfl
 have y43:=Y4.cell 3 _ rfl
 have z40:=Z4.cell 0 _ rfl
 have z41:=Z4.cell 1 _ rfl
 have z42:=Z4.cell 2 _ rfl
 have z43:=Z4.cell 3 _ rfl
 go_wp2_with fail
 go_ret
 exact ⟨rfl,B4⟩
set_option maxHeartbeats 4000000 in
theorem rh_n0 (w:World) (k f t:Int) (i j:Nat) (n:Nat) (bb off:Nat) (ch:Nat) (ih:n≤ch) (jh:ch≤9223372036854775807) (kh:n≤140737488351232)
 (a b:Nat) (x0 y0:Int) (x2 x3 y3:List UInt8) (e1:(f==t)=false) (hi:i < n) (hj:j < n)
 (HP:Hid (∀ V,Below w.heap.size w V→V.cell? ⟨bb,off+i*4,none⟩=some (.int .i64 x0)∧V.cell? ⟨bb,off+i*4+1,none⟩=some (.int .i64 f)∧V.cell? ⟨bb,off+i*4+2,none⟩=some (.string ⟨x2.toArray⟩)∧V.cell? ⟨bb,off+i*4+3,none⟩=some (.string ⟨x3.toArray⟩)))
 (HR:Hid (∀ V,Below w.heap.size w V→V.cell? ⟨bb,off+j*4,none⟩=some (.int .i64 y0)∧V.cell? ⟨bb,off+j*4+1,none⟩=some (.int .i64 t)∧V.cell? ⟨bb,off+j*4+2,none⟩=some (.string ⟨x2.toArray⟩)∧V.cell? ⟨bb,off+j*4+3,none⟩=some (.string ⟨y3.toArray⟩)))
 (D1:∀ W,Below w.heap.size w W→Calls Tryz.prog 47 #[.slice (some ⟨bb,off,none⟩) n ch,.int .i64 f] W fun e w'=>e=.returned (.int .i64 (a:Int))∧Below W.heap.size W w')
 (D2:∀ W,Below w.heap.size w W→Calls Tryz.prog 47 #[.slice (some ⟨bb,off,none⟩) n ch,.int .i64 t] W fun e w'=>e=.returned (.int .i64 (b:Int))∧Below W.heap.size W w')
 (u1:(k==1)=false) (u2:(k==2)=false) (u3:(k != 3)=true) :
 Calls Tryz.prog 39 #[.slice (some ⟨bb,off,none⟩) n ch,.agg #[.int .i64 k,.int .i64 f,.int .i64 t,.int .i64 (i:Int),.int .i64 (j:Int)]] w fun e w'=>e=.returned (.bool false)∧Below w.heap.size w w':=by
 have i1:¬ (a:Int) < 0:=by omega
 have i2:¬ (b:Int) < 0:=by omega
 have g2:¬ (i:Int) < 0:=by omega
 have g3:¬ (n:Int)≤(i:Int):=by omega
 have g4:¬ (j:Int) < 0:=by omega
 have g5:¬ (n:Int)≤(j:Int):=by omega
 have X0:=SBox.new w 71 #[.int .i64 k,.int .i64 f,.int .i64 t,.int .i64 (i:Int),.int .i64 (j:Int)]
 have B0:=(Below.refl w.heap.size w).alloc (Nat.le_refl _) (.cells #[.int .i64 k,.int .i64 f,.int .i64 t,.int .i64 (i:Int),.int .i64 (j:Int)] 71)
 go_enter Tryz.func39,Tryz.ntmps39
 have c1:(w.alloc (.cells #[.int .i64 k,.int .i64 f,.int .i64 t,.int .i64 (i:Int),.int .i64 (j:Int)] 71)).cell? ⟨w.heap.size,1,none⟩=some (.int .i64 f):=X0.cell 1 _ rfl
 go_wp2_with fail
 refine (D1 _ B0).mono ?_
 rintro e' w1 ⟨rfl,b1⟩
 have B1:=bel_trans B0 b1
 have X1:=X0.below b1
 have c2:w1.cell? ⟨w.heap.size,2,none⟩=some (.int .i64 t):=X1.cell 2 _ rfl
 clear c1
 go_wp2_with fail
 refine (D2 _ B1).mono ?_
 rintro e' w2 ⟨rfl,b2⟩
 have B2:=bel_trans B1 b2
 have X2:=X1.below b2
 clear c2
 have d0:w2.cell? ⟨w.heap.size,0,none⟩=some (.int .i64 k):=X2.cell 0 _ rfl
 have d1:w2.cell? ⟨w.heap.size,1,none⟩=some (.int .i64 f):=X2.cell 1 _ rfl
 have d2:w2.cell? ⟨w.heap.size,2,none⟩=some (.int .i64 t):=X2.cell 2 _ rfl
 have d3:w2.cell? ⟨w.heap.size,3,none⟩=some (.int .i64 (i:Int)):=X2.cell 3 _ rfl
 have d4:w2.cell? ⟨w.heap.size,4,none⟩=some (.int .i64 (j:Int)):=X2.cell 4 _ rfl
 obtain ⟨p0,p1,p2,p3⟩:=HP.out _ B2
 have B3:=B2.alloc B2.size (.cells #[.int .i64 x0,.int .i64 f,.string ⟨x2.toArray⟩,.string ⟨x3.toArray⟩] 49)
 have B4:=B3.alloc B3.size (.cells #[.int .i64 y0,.int .i64 t,.string ⟨x2.toArray⟩,.string ⟨y3.toArray⟩] 49)
 have X4:=(X2.alloc (.cells #[.int .i64 x0,.int .i64 f,.string ⟨x2.toArray⟩,.string ⟨x3.toArray⟩] 49)).alloc (.cells #[.int .i64 y0,.int .i64 t,.string ⟨x2.toArray⟩,.string ⟨y3.toArray⟩] 49)
 have Y4:=(SBox.new w2 49 #[.int .i64 x0,.int .i64 f,.string ⟨x2.toArray⟩,.string ⟨x3.toArray⟩]).alloc (.cells #[.int .i64 y0,.int .i64 t,.string ⟨x2.toArray⟩,.string ⟨y3.toArray⟩] 49)
 obtain ⟨q0,q1,q2,q3⟩:=HR.out _ B3
 have X3:=X2.alloc (.cells #[.int .i64 x0,.int .i64 f,.string ⟨x2.toArray⟩,.string ⟨x3.toArray⟩] 49)
 have Z4:=SBox.new (w2.alloc (.cells #[.int .i64 x0,.int .i64 f,.string ⟨x2.toArray⟩,.string ⟨x3.toArray⟩] 49)) 49 #[.int .i64 y0,.int .i64 t,.string ⟨x2.toArray⟩,.string ⟨y3.toArray⟩]
 have hz:(w2.alloc (.cells #[.int .i64 x0,.int .i64 f,.string ⟨x2.toArray⟩,.string ⟨x3.toArray⟩] 49)).heap.size=w2.heap.size+1:=Array.size_push ..
 have m4:=X3.cell 4 _ rfl
 have x40:=X4.cell 0 _ rfl
 have x41:=X4.cell 1 _ rfl
 have x42:=X4.cell 2 _ rfl
 have y40:=Y4.cell 0 _ rfl
 have y41:=Y4.cell 1 _ rfl
 have y42:=Y4.cell 2 _ rfl
 have y43:=Y4.cell 3 _ rfl
 have z40:=Z4.cell 0 _ rfl
 have z41:=Z4.cell 1 _ rfl
 have z42:=Z4.cell 2 _ rfl
 have z43:=Z4.cell 3 _ rfl
 go_wp2_with fail
 go_ret
 exact ⟨rfl,B4⟩
set_option maxHeartbeats 4000000 in
theorem rh_n1 (w:World) (f t:Int) (i j:Nat) (n:Nat) (bb off:Nat) (ch:Nat) (ih:n≤ch) (jh:ch≤9223372036854775807) (kh:n≤140737488351232)
 (a b:Nat) (x0 y0:Int) (x2 x3 y3:List UInt8) (e1:(f==t)=false) (hi:i < n) (hj:j < n)
 (HP:Hid (∀ V,Below w.heap.size w V→V.cell? ⟨bb,off+i*4,none⟩=some (.int .i64 x0)∧V.cell? ⟨bb,off+i*4+1,none⟩=some (.int .i64 f)∧V.cell? ⟨bb,off+i*4+2,none⟩=some (.string ⟨x2.toArray⟩)∧V.cell? ⟨bb,off+i*4+3,none⟩=some (.string ⟨x3.toArray⟩)))
 (HR:Hid (∀ V,Below w.heap.size w V→V.cell? ⟨bb,off+j*4,none⟩=some (.int .i64 y0)∧V.cell? ⟨bb,off+j*4+1,none⟩=some (.int .i64 t)∧V.cell? ⟨bb,off+j*4+2,none⟩=some (.string ⟨x2.toArray⟩)∧V.cell? ⟨bb,off+j*4+3,none⟩=some (.string ⟨y3.toArray⟩)))
 (D1:∀ W,Below w.heap.size w W→Calls Tryz.prog 47 #[.slice (some ⟨bb,off,none⟩) n ch,.int .i64 f] W fun e w'=>e=.returned (.int .i64 (a:Int))∧Below W.heap.size W w')
 (D2:∀ W,Below w.heap.size w W→Calls Tryz.prog 47 #[.slice (some ⟨bb,off,none⟩) n ch,.int .i64 t] W fun e w'=>e=.returned (.int .i64 (b:Int))∧Below W.heap.size W w')
 (v0:(x0 != 2)=true) :
 Calls Tryz.prog 39 #[.slice (some ⟨bb,off,none⟩) n ch,.agg #[.int .i64 3,.int .i64 f,.int .i64 t,.int .i64 (i:Int),.int .i64 (j:Int)]] w fun e w'=>e=.returned (.bool false)∧Below w.heap.size w w':=by
 have i1:¬ (a:Int) < 0:=by omega
 have i2:¬ (b:Int) < 0:=by omega
 have g2:¬ (i:Int) < 0:=by omega
 have g3:¬ (n:Int)≤(i:Int):=by omega
 have g4:¬ (j:Int) < 0:=by omega
 have g5:¬ (n:Int)≤(j:Int):=by omega
 have X0:=SBox.new w 71 #[.int .i64 3,.int .i64 f,.int .i64 t,.int .i64 (i:Int),.int .i64 (j:Int)]
 have B0:=(Below.refl w.heap.size w).alloc (Nat.le_refl _) (.cells #[.int .i64 3,.int .i64 f,.int .i64 t,.int .i64 (i:Int),.int .i64 (j:Int)] 71)
 go_enter Tryz.func39,Tryz.ntmps39
 have c1:(w.alloc (.cells #[.int .i64 3,.int .i64 f,.int .i64 t,.int .i64 (i:Int),.int .i64 (j:Int)] 71)).cell? ⟨w.heap.size,1,none⟩=some (.int .i64 f):=X0.cell 1 _ rfl
 go_wp2_with fail
 refine (D1 _ B0).mono ?_
 rintro e' w1 ⟨rfl,b1⟩
 have B1:=bel_trans B0 b1
 have X1:=X0.below b1
 have c2:w1.cell? ⟨w.heap.size,2,none⟩=some (.int .i64 t):=X1.cell 2 _ rfl
 clear c1
 go_wp2_with fail
 refine (D2 _ B1).mono ?_
 rintro e' w2 ⟨rfl,b2⟩
 have B2:=bel_trans B1 b2
 have X2:=X1.below b2
 clear c2
 have d0:w2.cell? ⟨w.heap.size,0,none⟩=some (.int .i64 3):=X2.cell 0 _ rfl
 have d1:w2.cell? ⟨w.heap.size,1,none⟩=some (.int .i64 f):=X2.cell 1 _ rfl
 have d2:w2.cell? ⟨w.heap.size,2,none⟩=some (.int .i64 t):=X2.cell 2 _ rfl
 have d3:w2.cell? ⟨w.heap.size,3,none⟩=some (.int .i64 (i:Int)):=X2.cell 3 _ rfl
 have d4:w2.cell? ⟨w.heap.size,4,none⟩=some (.int .i64 (j:Int)):=X2.cell 4 _ rfl
 obtain ⟨p0,p1,p2,p3⟩:=HP.out _ B2
 have B3:=B2.alloc B2.size (.cells #[.int .i64 x0,.int .i64 f,.string ⟨x2.toArray⟩,.string ⟨x3.toArray⟩] 49)
 have B4:=B3.alloc B3.size (.cells #[.int .i64 y0,.int .i64 t,.string ⟨x2.toArray⟩,.string ⟨y3.toArray⟩] 49)
 have X4:=(X2.alloc (.cells #[.int .i64 x0,.int .i64 f,.string ⟨x2.toArray⟩,.string ⟨x3.toArray⟩] 49)).alloc (.cells #[.int .i64 y0,.int .i64 t,.string ⟨x2.toArray⟩,.string ⟨y3.toArray⟩] 49)
 have Y4:=(SBox.new w2 49 #[.int .i64 x0,.int .i64 f,.string ⟨x2.toArray⟩,.string ⟨x3.toArray⟩]).alloc (.cells #[.int .i64 y0,.int .i64 t,.string ⟨x2.toArray⟩,.string ⟨y3.toArray⟩] 49)
 obtain ⟨q0,q1,q2,q3⟩:=HR.out _ B3
 have X3:=X2.alloc (.cells #[.int .i64 x0,.int .i64 f,.string ⟨x2.toArray⟩,.string ⟨x3.toArray⟩] 49)
 have Z4:=SBox.new (w2.alloc (.cells #[.int .i64 x0,.int .i64 f,.string ⟨x2.toArray⟩,.string ⟨x3.toArray⟩] 49)) 49 #[.int .i64 y0,.int .i64 t,.string ⟨x2.toArray⟩,.string ⟨y3.toArray⟩]
 have hz:(w2.alloc (.cells #[.int .i64 x0,.int .i64 f,.string ⟨x2.toArray⟩,.string ⟨x3.toArray⟩] 49)).heap.size=w2.heap.size+1:=Array.size_push ..
 have m4:=X3.cell 4 _ rfl
 have x40:=X4.cell 0 _ rfl
 have x41:=X4.cell 1 _ rfl
 have x42:=X4.cell 2 _ rfl
 have y40:=Y4.cell 0 _ rfl
 have y41:=Y4.cell 1 _ rfl
 have y42:=Y4.cell 2 _ rfl
 have y43:=Y4.cell 3 _ rfl
 have z40:=Z4.cell 0 _ rfl
 have z41:=Z4.cell 1 _ rfl
 have z42:=Z4.cell 2 _ rfl
 have z43:=Z4.cell 3 _ rfl
 go_wp2_with fail
 go_ret
 exact ⟨rfl,B4⟩
set_option maxHeartbeats 4000000 in
theorem rh_n2 (w:World) (f t:Int) (i j:Nat) (n:Nat) (bb off:Nat) (ch:Nat) (ih:n≤ch) (jh:ch≤9223372036854775807) (kh:n≤140737488351232)
 (a b:Nat) (y0:Int) (x2 x3 y3:List UInt8) (e1:(f==t)=false) (hi:i < n) (hj:j < n)
 (HP:Hid (∀ V,Below w.heap.size w V→V.cell? ⟨bb,off+i*4,none⟩=some (.int .i64 2)∧V.cell? ⟨bb,off+i*4+1,none⟩=some (.int .i64 f)∧V.cell? ⟨bb,off+i*4+2,none⟩=some (.string ⟨x2.toArray⟩)∧V.cell? ⟨bb,off+i*4+3,none⟩=some (.string ⟨x3.toArray⟩)))
 (HR:Hid (∀ V,Below w.heap.size w V→V.cell? ⟨bb,off+j*4,none⟩=some (.int .i64 y0)∧V.cell? ⟨bb,off+j*4+1,none⟩=some (.int .i64 t)∧V.cell? ⟨bb,off+j*4+2,none⟩=some (.string ⟨x2.toArray⟩)∧V.cell? ⟨bb,off+j*4+3,none⟩=some (.string ⟨y3.toArray⟩)))
 (D1:∀ W,Below w.heap.size w W→Calls Tryz.prog 47 #[.slice (some ⟨bb,off,none⟩) n ch,.int .i64 f] W fun e w'=>e=.returned (.int .i64 (a:Int))∧Below W.heap.size W w')
 (D2:∀ W,Below w.heap.size w W→Calls Tryz.prog 47 #[.slice (some ⟨bb,off,none⟩) n ch,.int .i64 t] W fun e w'=>e=.returned (.int .i64 (b:Int))∧Below W.heap.size W w')
 (v1:(y0 != 3)=true) :
 Calls Tryz.prog 39 #[.slice (some ⟨bb,off,none⟩) n ch,.agg #[.int .i64 3,.int .i64 f,.int .i64 t,.int .i64 (i:Int),.int .i64 (j:Int)]] w fun e w'=>e=.returned (.bool false)∧Below w.heap.size w w':=by
 have i1:¬ (a:Int) < 0:=by omega
 have i2:¬ (b:Int) < 0:=by omega
 have g2:¬ (i:Int) < 0:=by omega
 have g3:¬ (n:Int)≤(i:Int):=by omega
 have g4:¬ (j:Int) < 0:=by omega
 have g5:¬ (n:Int)≤(j:Int):=by omega
 have X0:=SBox.new w 71 #[.int .i64 3,.int .i64 f,.int .i64 t,.int .i64 (i:Int),.int .i64 (j:Int)]
 have B0:=(Below.refl w.heap.size w).alloc (Nat.le_refl _) (.cells #[.int .i64 3,.int .i64 f,.int .i64 t,.int .i64 (i:Int),.int .i64 (j:Int)] 71)
 go_enter Tryz.func39,Tryz.ntmps39
 have c1:(w.alloc (.cells #[.int .i64 3,.int .i64 f,.int .i64 t,.int .i64 (i:Int),.int .i64 (j:Int)] 71)).cell? ⟨w.heap.size,1,none⟩=some (.int .i64 f):=X0.cell 1 _ rfl
 go_wp2_with fail
 refine (D1 _ B0).mono ?_
 rintro e' w1 ⟨rfl,b1⟩
 have B1:=bel_trans B0 b1
 have X1:=X0.below b1
 have c2:w1.cell? ⟨w.heap.size,2,none⟩=some (.int .i64 t):=X1.cell 2 _ rfl
 clear c1
 go_wp2_with fail
 refine (D2 _ B1).mono ?_
 rintro e' w2 ⟨rfl,b2⟩
 have B2:=bel_trans B1 b2
 have X2:=X1.below b2
 clear c2
 have d0:w2.cell? ⟨w.heap.size,0,none⟩=some (.int .i64 3):=X2.cell 0 _ rfl
 have d1:w2.cell? ⟨w.heap.size,1,none⟩=some (.int .i64 f):=X2.cell 1 _ rfl
 have d2:w2.cell? ⟨w.heap.size,2,none⟩=some (.int .i64 t):=X2.cell 2 _ rfl
 have d3:w2.cell? ⟨w.heap.size,3,none⟩=some (.int .i64 (i:Int)):=X2.cell 3 _ rfl
 have d4:w2.cell? ⟨w.heap.size,4,none⟩=some (.int .i64 (j:Int)):=X2.cell 4 _ rfl
 obtain ⟨p0,p1,p2,p3⟩:=HP.out _ B2
 have B3:=B2.alloc B2.size (.cells #[.int .i64 2,.int .i64 f,.string ⟨x2.toArray⟩,.string ⟨x3.toArray⟩] 49)
 have B4:=B3.alloc B3.size (.cells #[.int .i64 y0,.int .i64 t,.string ⟨x2.toArray⟩,.string ⟨y3.toArray⟩] 49)
 have X4:=(X2.alloc (.cells #[.int .i64 2,.int .i64 f,.string ⟨x2.toArray⟩,.string ⟨x3.toArray⟩] 49)).alloc (.cells #[.int .i64 y0,.int .i64 t,.string ⟨x2.toArray⟩,.string ⟨y3.toArray⟩] 49)
 have Y4:=(SBox.new w2 49 #[.int .i64 2,.int .i64 f,.string ⟨x2.toArray⟩,.string ⟨x3.toArray⟩]).alloc (.cells #[.int .i64 y0,.int .i64 t,.string ⟨x2.toArray⟩,.string ⟨y3.toArray⟩] 49)
 obtain ⟨q0,q1,q2,q3⟩:=HR.out _ B3
 have X3:=X2.alloc (.cells #[.int .i64 2,.int .i64 f,.string ⟨x2.toArray⟩,.string ⟨x3.toArray⟩] 49)
 have Z4:=SBox.new (w2.alloc (.cells #[.int .i64 2,.int .i64 f,.string ⟨x2.toArray⟩,.string ⟨x3.toArray⟩] 49)) 49 #[.int .i64 y0,.int .i64 t,.string ⟨x2.toArray⟩,.string ⟨y3.toArray⟩]
 have hz:(w2.alloc (.cells #[.int .i64 2,.int .i64 f,.string ⟨x2.toArray⟩,.string ⟨x3.toArray⟩] 49)).heap.size=w2.heap.size+1:=Array.size_push ..
 have m4:=X3.cell 4 _ rfl
 have x40:=X4.cell 0 _ rfl
 have x41:=X4.cell 1 _ rfl
 have x42:=X4.cell 2 _ rfl
 have y40:=Y4.cell 0 _ rfl
 have y41:=Y4.cell 1 _ rfl
 have y42:=Y4.cell 2 _ rfl
 have y43:=Y4.cell 3 _ rfl
 have z40:=Z4.cell 0 _ rfl
 have z41:=Z4.cell 1 _ rfl
 have z42:=Z4.cell 2 _ rfl
 have z43:=Z4.cell 3 _ rfl
 go_wp2_with fail
 go_ret
 exact ⟨rfl,B4⟩
set_option maxHeartbeats 4000000 in
theorem rh_n3 (w:World) (f t:Int) (i j:Nat) (n:Nat) (bb off:Nat) (ch:Nat) (ih:n≤ch) (jh:ch≤9223372036854775807) (kh:n≤140737488351232)
 (a b:Nat)  (x2 x3 y3:List UInt8) (e1:(f==t)=false) (hi:i < n) (hj:j < n)
 (HP:Hid (∀ V,Below w.heap.size w V→V.cell? ⟨bb,off+i*4,none⟩=some (.int .i64 2)∧V.cell? ⟨bb,off+i*4+1,none⟩=some (.int .i64 f)∧V.cell? ⟨bb,off+i*4+2,none⟩=some (.string ⟨x2.toArray⟩)∧V.cell? ⟨bb,off+i*4+3,none⟩=some (.string ⟨x3.toArray⟩)))
 (HR:Hid (∀ V,Below w.heap.size w V→V.cell? ⟨bb,off+j*4,none⟩=some (.int .i64 3)∧V.cell? ⟨bb,off+j*4+1,none⟩=some (.int .i64 t)∧V.cell? ⟨bb,off+j*4+2,none⟩=some (.string ⟨x2.toArray⟩)∧V.cell? ⟨bb,off+j*4+3,none⟩=some (.string ⟨y3.toArray⟩)))
 (D1:∀ W,Below w.heap.size w W→Calls Tryz.prog 47 #[.slice (some ⟨bb,off,none⟩) n ch,.int .i64 f] W fun e w'=>e=.returned (.int .i64 (a:Int))∧Below W.heap.size W w')
 (D2:∀ W,Below w.heap.size w W→Calls Tryz.prog 47 #[.slice (some ⟨bb,off,none⟩) n ch,.int .i64 t] W fun e w'=>e=.returned (.int .i64 (b:Int))∧Below W.heap.size W w')
 (v2:x3.isEmpty=true) :
 Calls Tryz.prog 39 #[.slice (some ⟨bb,off,none⟩) n ch,.agg #[.int .i64 3,.int .i64 f,.int .i64 t,.int .i64 (i:Int),.int .i64 (j:Int)]] w fun e w'=>e=.returned (.bool true)∧Below w.heap.size w w':=by
 have i1:¬ (a:Int) < 0:=by omega
 have i2:¬ (b:Int) < 0:=by omega
 have g2:¬ (i:Int) < 0:=by omega
 have g3:¬ (n:Int)≤(i:Int):=by omega
 have g4:¬ (j:Int) < 0:=by omega
 have g5:¬ (n:Int)≤(j:Int):=by omega
 have X0:=SBox.new w 71 #[.int .i64 3,.int .i64 f,.int .i64 t,.int .i64 (i:Int),.int .i64 (j:Int)]
 have B0:=(Below.refl w.heap.size w).alloc (Nat.le_refl _) (.cells #[.int .i64 3,.int .i64 f,.int .i64 t,.int .i64 (i:Int),.int .i64 (j:Int)] 71)
 go_enter Tryz.func39,Tryz.ntmps39
 have c1:(w.alloc (.cells #[.int .i64 3,.int .i64 f,.int .i64 t,.int .i64 (i:Int),.int .i64 (j:Int)] 71)).cell? ⟨w.heap.size,1,none⟩=some (.int .i64 f):=X0.cell 1 _ rfl
 go_wp2_with fail
 refine (D1 _ B0).mono ?_
 rintro e' w1 ⟨rfl,b1⟩
 have B1:=bel_trans B0 b1
 have X1:=X0.below b1
 have c2:w1.cell? ⟨w.heap.size,2,none⟩=some (.int .i64 t):=X1.cell 2 _ rfl
 clear c1
 go_wp2_with fail
 refine (D2 _ B1).mono ?_
 rintro e' w2 ⟨rfl,b2⟩
 have B2:=bel_trans B1 b2
 have X2:=X1.below b2
 clear c2
 have d0:w2.cell? ⟨w.heap.size,0,none⟩=some (.int .i64 3):=X2.cell 0 _ rfl
 have d1:w2.cell? ⟨w.heap.size,1,none⟩=some (.int .i64 f):=X2.cell 1 _ rfl
 have d2:w2.cell? ⟨w.heap.size,2,none⟩=some (.int .i64 t):=X2.cell 2 _ rfl
 have d3:w2.cell? ⟨w.heap.size,3,none⟩=some (.int .i64 (i:Int)):=X2.cell 3 _ rfl
 have d4:w2.cell? ⟨w.heap.size,4,none⟩=some (.int .i64 (j:Int)):=X2.cell 4 _ rfl
 obtain ⟨p0,p1,p2,p3⟩:=HP.out _ B2
 have B3:=B2.alloc B2.size (.cells #[.int .i64 2,.int .i64 f,.string ⟨x2.toArray⟩,.string ⟨x3.toArray⟩] 49)
 have B4:=B3.alloc B3.size (.cells #[.int .i64 3,.int .i64 t,.string ⟨x2.toArray⟩,.string ⟨y3.toArray⟩] 49)
 have X4:=(X2.alloc (.cells #[.int .i64 2,.int .i64 f,.string ⟨x2.toArray⟩,.string ⟨x3.toArray⟩] 49)).alloc (.cells #[.int .i64 3,.int .i64 t,.string ⟨x2.toArray⟩,.string ⟨y3.toArray⟩] 49)
 have Y4:=(SBox.new w2 49 #[.int .i64 2,.int .i64 f,.string ⟨x2.toArray⟩,.string ⟨x3.toArray⟩]).alloc (.cells #[.int .i64 3,.int .i64 t,.string ⟨x2.toArray⟩,.string ⟨y3.toArray⟩] 49)
 obtain ⟨q0,q1,q2,q3⟩:=HR.out _ B3
 have X3:=X2.alloc (.cells #[.int .i64 2,.int .i64 f,.string ⟨x2.toArray⟩,.string ⟨x3.toArray⟩] 49)
 have Z4:=SBox.new (w2.alloc (.cells #[.int .i64 2,.int .i64 f,.string ⟨x2.toArray⟩,.string ⟨x3.toArray⟩] 49)) 49 #[.int .i64 3,.int .i64 t,.string ⟨x2.toArray⟩,.string ⟨y3.toArray⟩]
 have hz:(w2.alloc (.cells #[.int .i64 2,.int .i64 f,.string ⟨x2.toArray⟩,.string ⟨x3.toArray⟩] 49)).heap.size=w2.heap.size+1:=Array.size_push ..
 have m4:=X3.cell 4 _ rfl
 have x40:=X4.cell 0 _ rfl
 have x41:=X4.cell 1 _ rfl
 have x42:=X4.cell 2 _ rfl
 have y40:=Y4.cell 0 _ rfl
 have y41:=Y4.cell 1 _ rfl
 have y42:=Y4.cell 2 _ rfl
 have y43:=Y4.cell 3 _ rfl
 have z40:=Z4.cell 0 _ rfl
 have z41:=Z4.cell 1 _ rfl
 have z42:=Z4.cell 2 _ rfl
 have z43:=Z4.cell 3 _ rfl
 go_wp2_with fail
 go_ret
 exact ⟨rfl,B4⟩
set_option maxHeartbeats 4000000 in
theorem rh_s0 (w:World) (f t:Int) (i j:Nat) (n:Nat) (bb off:Nat) (ch:Nat) (ih:n≤ch) (jh:ch≤9223372036854775807) (kh:n≤140737488351232)
 (a b:Nat)  (x2 x3 y3:List UInt8) (e1:(f==t)=false) (hi:i < n) (hj:j < n)
 (HP:Hid (∀ V,Below w.heap.size w V→V.cell? ⟨bb,off+i*4,none⟩=some (.int .i64 2)∧V.cell? ⟨bb,off+i*4+1,none⟩=some (.int .i64 f)∧V.cell? ⟨bb,off+i*4+2,none⟩=some (.string ⟨x2.toArray⟩)∧V.cell? ⟨bb,off+i*4+3,none⟩=some (.string ⟨x3.toArray⟩)))
 (HR:Hid (∀ V,Below w.heap.size w V→V.cell? ⟨bb,off+j*4,none⟩=some (.int .i64 3)∧V.cell? ⟨bb,off+j*4+1,none⟩=some (.int .i64 t)∧V.cell? ⟨bb,off+j*4+2,none⟩=some (.string ⟨x2.toArray⟩)∧V.cell? ⟨bb,off+j*4+3,none⟩=some (.string ⟨y3.toArray⟩)))
 (D1:∀ W,Below w.heap.size w W→Calls Tryz.prog 47 #[.slice (some ⟨bb,off,none⟩) n ch,.int .i64 f] W fun e w'=>e=.returned (.int .i64 (a:Int))∧Below W.heap.size W w')
 (D2:∀ W,Below w.heap.size w W→Calls Tryz.prog 47 #[.slice (some ⟨bb,off,none⟩) n ch,.int .i64 t] W fun e w'=>e=.returned (.int .i64 (b:Int))∧Below W.heap.size W w')
 (v2:x3.isEmpty=false)
 (DW:∀ W,Below w.heap.size w W→Calls Tryz.prog 43 #[.slice (some ⟨bb,off,none⟩) n ch,.string ⟨x2.toArray⟩,.string ⟨x3.toArray⟩] W fun e w'=>e=.returned (.int .i64 (-1))∧Below W.heap.size W w') :
 Calls Tryz.prog 39 #[.slice (some ⟨bb,off,none⟩) n ch,.agg #[.int .i64 3,.int .i64 f,.int .i64 t,.int .i64 (i:Int),.int .i64 (j:Int)]] w fun e w'=>e=.returned (.bool false)∧Below w.heap.size w w':=by
 have i1:¬ (a:Int) < 0:=by omega
 have i2:¬ (b:Int) < 0:=by omega
 have g2:¬ (i:Int) < 0:=by omega
 have g3:¬ (n:Int)≤(i:Int):=by omega
 have g4:¬ (j:Int) < 0:=by omega
 have g5:¬ (n:Int)≤(j:Int):=by omega
 have X0:=SBox.new w 71 #[.int .i64 3,.int .i64 f,.int .i64 t,.int .i64 (i:Int),.int .i64 (j:Int)]
 have B0:=(Below.refl w.heap.size w).alloc (Nat.le_refl _) (.cells #[.int .i64 3,.int .i64 f,.int .i64 t,.int .i64 (i:Int),.int .i64 (j:Int)] 71)
 go_enter Tryz.func39,Tryz.ntmps39
 have c1:(w.alloc (.cells #[.int .i64 3,.int .i64 f,.int .i64 t,.int .i64 (i:Int),.int .i64 (j:Int)] 71)).cell? ⟨w.heap.size,1,none⟩=some (.int .i64 f):=X0.cell 1 _ rfl
 go_wp2_with fail
 refine (D1 _ B0).mono ?_
 rintro e' w1 ⟨rfl,b1⟩
 have B1:=bel_trans B0 b1
 have X1:=X0.below b1
 have c2:w1.cell? ⟨w.heap.size,2,none⟩=some (.int .i64 t):=X1.cell 2 _ rfl
 clear c1
 go_wp2_with fail
 refine (D2 _ B1).mono ?_
 rintro e' w2 ⟨rfl,b2⟩
 have B2:=bel_trans B1 b2
 have X2:=X1.below b2
 clear c2
 have d0:w2.cell? ⟨w.heap.size,0,none⟩=some (.int .i64 3):=X2.cell 0 _ rfl
 have d1:w2.cell? ⟨w.heap.size,1,none⟩=some (.int .i64 f):=X2.cell 1 _ rfl
 have d2:w2.cell? ⟨w.heap.size,2,none⟩=some (.int .i64 t):=X2.cell 2 _ rfl
 have d3:w2.cell? ⟨w.heap.size,3,none⟩=some (.int .i64 (i:Int)):=X2.cell 3 _ rfl
 have d4:w2.cell? ⟨w.heap.size,4,none⟩=some (.int .i64 (j:Int)):=X2.cell 4 _ rfl
 obtain ⟨p0,p1,p2,p3⟩:=HP.out _ B2
 have B3:=B2.alloc B2.size (.cells #[.int .i64 2,.int .i64 f,.string ⟨x2.toArray⟩,.string ⟨x3.toArray⟩] 49)
 have B4:=B3.alloc B3.size (.cells #[.int .i64 3,.int .i64 t,.string ⟨x2.toArray⟩,.string ⟨y3.toArray⟩] 49)
 have X4:=(X2.alloc (.cells #[.int .i64 2,.int .i64 f,.string ⟨x2.toArray⟩,.string ⟨x3.toArray⟩] 49)).alloc (.cells #[.int .i64 3,.int .i64 t,.string ⟨x2.toArray⟩,.string ⟨y3.toArray⟩] 49)
 have Y4:=(SBox.new w2 49 #[.int .i64 2,.int .i64 f,.string ⟨x2.toArray⟩,.string ⟨x3.toArray⟩]).alloc (.cells #[.int .i64 3,.int .i64 t,.string ⟨x2.toArray⟩,.string ⟨y3.toArray⟩] 49)
 obtain ⟨q0,q1,q2,q3⟩:=HR.out _ B3
 have X3:=X2.alloc (.cells #[.int .i64 2,.int .i64 f,.string ⟨x2.toArray⟩,.string ⟨x3.toArray⟩] 49)
 have Z4:=SBox.new (w2.alloc (.cells #[.int .i64 2,.int .i64 f,.string ⟨x2.toArray⟩,.string ⟨x3.toArray⟩] 49)) 49 #[.int .i64 3,.int .i64 t,.string ⟨x2.toArray⟩,.string ⟨y3.toArray⟩]
 have hz:(w2.alloc (.cells #[.int .i64 2,.int .i64 f,.string ⟨x2.toArray⟩,.string ⟨x3.toArray⟩] 49)).heap.size=w2.heap.size+1:=Array.size_push ..
 have m4:=X3.cell 4 _ rfl
 have x40:=X4.cell 0 _ rfl
 have x41:=X4.cell 1 _ rfl
 have x42:=X4.cell 2 _ rfl
 have y40:=Y4.cell 0 _ rfl
 have y41:=Y4.cell 1 _ rfl
 have y42:=Y4.cell 2 _ rfl
 have y43:=Y4.cell 3 _ rfl
 have z40:=Z4.cell 0 _ rfl
 have z41:=Z4.cell 1 _ rfl
 have z42:=Z4.cell 2 _ rfl
 have z43:=Z4.cell 3 _ rfl
 have t0:((w2.alloc (.cells #[.int .i64 2,.int .i64 f,.string ⟨x2.toArray⟩,.string ⟨x3.toArray⟩] 49)).alloc (.cells #[.int .i64 3,.int .i64 t,.string ⟨x2.toArray⟩,.string ⟨y3.toArray⟩] 49)).cell? ⟨w2.heap.size,2,none⟩=some (.string ⟨x2.toArray⟩):=Y4.cell 2 _ rfl
 go_wp2_with fail
 refine (DW _ B4).mono ?_
 rintro e' w5 ⟨rfl,b5⟩
 have B5:=bel_trans B4 b5
 have X5:=X4.below b5
 have g2':w5.cell? ⟨w.heap.size,2,none⟩=some (.int .i64 t):=X5.cell 2 _ rfl
 clear t0 p0 p1 p2 p3 q0 q1 q2 q3 d0 d1 d2 d3 d4
 go_wp2_with fail
 go_quiet (fail)
 go_wp2_with fail
 go_ret
 exact ⟨rfl,below_drewN B5 _⟩
set_option maxHeartbeats 4000000 in
theorem rh_s1 (w:World) (f t:Int) (i j:Nat) (n:Nat) (bb off:Nat) (ch:Nat) (ih:n≤ch) (jh:ch≤9223372036854775807) (kh:n≤140737488351232)
 (a b:Nat)  (x2 x3 y3:List UInt8) (e1:(f==t)=false) (hi:i < n) (hj:j < n)
 (HP:Hid (∀ V,Below w.heap.size w V→V.cell? ⟨bb,off+i*4,none⟩=some (.int .i64 2)∧V.cell? ⟨bb,off+i*4+1,none⟩=some (.int .i64 f)∧V.cell? ⟨bb,off+i*4+2,none⟩=some (.string ⟨x2.toArray⟩)∧V.cell? ⟨bb,off+i*4+3,none⟩=some (.string ⟨x3.toArray⟩)))
 (HR:Hid (∀ V,Below w.heap.size w V→V.cell? ⟨bb,off+j*4,none⟩=some (.int .i64 3)∧V.cell? ⟨bb,off+j*4+1,none⟩=some (.int .i64 t)∧V.cell? ⟨bb,off+j*4+2,none⟩=some (.string ⟨x2.toArray⟩)∧V.cell? ⟨bb,off+j*4+3,none⟩=some (.string ⟨y3.toArray⟩)))
 (D1:∀ W,Below w.heap.size w W→Calls Tryz.prog 47 #[.slice (some ⟨bb,off,none⟩) n ch,.int .i64 f] W fun e w'=>e=.returned (.int .i64 (a:Int))∧Below W.heap.size W w')
 (D2:∀ W,Below w.heap.size w W→Calls Tryz.prog 47 #[.slice (some ⟨bb,off,none⟩) n ch,.int .i64 t] W fun e w'=>e=.returned (.int .i64 (b:Int))∧Below W.heap.size W w')
 (v2:x3.isEmpty=false) (q:Nat) (hq:q < n) (z0:Int) (z2 z3:List UInt8) (HZ:Hid (∀ V,Below w.heap.size w V→V.cell? ⟨bb,off+q*4,none⟩=some (.int .i64 z0)∧V.cell? ⟨bb,off+q*4+1,none⟩=some (.int .i64 t)∧V.cell? ⟨bb,off+q*4+2,none⟩=some (.string ⟨z2.toArray⟩)∧V.cell? ⟨bb,off+q*4+3,none⟩=some (.string ⟨z3.toArray⟩)))
 (DW:∀ W,Below w.heap.size w W→Calls Tryz.prog 43 #[.slice (some ⟨bb,off,none⟩) n ch,.string ⟨x2.toArray⟩,.string ⟨x3.toArray⟩] W fun e w'=>e=.returned (.int .i64 (q:Int))∧Below W.heap.size W w')  :
 Calls Tryz.prog 39 #[.slice (some ⟨bb,off,none⟩) n ch,.agg #[.int .i64 3,.int .i64 f,.int .i64 t,.int .i64 (i:Int),.int .i64 (j:Int)]] w fun e w'=>e=.returned (.bool false)∧Below w.heap.size w w':=by
 have i1:¬ (a:Int) < 0:=by omega
 have i2:¬ (b:Int) < 0:=by omega
 have g2:¬ (i:Int) < 0:=by omega
 have g3:¬ (n:Int)≤(i:Int):=by omega
 have g4:¬ (j:Int) < 0:=by omega
 have g5:¬ (n:Int)≤(j:Int):=by omega
 have X0:=SBox.new w 71 #[.int .i64 3,.int .i64 f,.int .i64 t,.int .i64 (i:Int),.int .i64 (j:Int)]
 have B0:=(Below.refl w.heap.size w).alloc (Nat.le_refl _) (.cells #[.int .i64 3,.int .i64 f,.int .i64 t,.int .i64 (i:Int),.int .i64 (j:Int)] 71)
 go_enter Tryz.func39,Tryz.ntmps39
 have c1:(w.alloc (.cells #[.int .i64 3,.int .i64 f,.int .i64 t,.int .i64 (i:Int),.int .i64 (j:Int)] 71)).cell? ⟨w.heap.size,1,none⟩=some (.int .i64 f):=X0.cell 1 _ rfl
 go_wp2_with fail
 refine (D1 _ B0).mono ?_
 rintro e' w1 ⟨rfl,b1⟩
 have B1:=bel_trans B0 b1
 have X1:=X0.below b1
 have c2:w1.cell? ⟨w.heap.size,2,none⟩=some (.int .i64 t):=X1.cell 2 _ rfl
 clear c1
 go_wp2_with fail
 refine (D2 _ B1).mono ?_
 rintro e' w2 ⟨rfl,b2⟩
 have B2:=bel_trans B1 b2
 have X2:=X1.below b2
 clear c2
 have d0:w2.cell? ⟨w.heap.size,0,none⟩=some (.int .i64 3):=X2.cell 0 _ rfl
 have d1:w2.cell? ⟨w.heap.size,1,none⟩=some (.int .i64 f):=X2.cell 1 _ rfl
 have d2:w2.cell? ⟨w.heap.size,2,none⟩=some (.int .i64 t):=X2.cell 2 _ rfl
 have d3:w2.cell? ⟨w.heap.size,3,none⟩=some (.int .i64 (i:Int)):=X2.cell 3 _ rfl
 have d4:w2.cell? ⟨w.heap.size,4,none⟩=some (.int .i64 (j:Int)):=X2.cell 4 _ rfl
 obtain ⟨p0,p1,p2,p3⟩:=HP.out _ B2
 have B3:=B2.alloc B2.size (.cells #[.int .i64 2,.int .i64 f,.string ⟨x2.toArray⟩,.string ⟨x3.toArray⟩] 49)
 have B4:=B3.alloc B3.size (.cells #[.int .i64 3,.int .i64 t,.string ⟨x2.toArray⟩,.string ⟨y3.toArray⟩] 49)
 have X4:=(X2.alloc (.cells #[.int .i64 2,.int .i64 f,.string ⟨x2.toArray⟩,.string ⟨x3.toArray⟩] 49)).alloc (.cells #[.int .i64 3,.int .i64 t,.string ⟨x2.toArray⟩,.string ⟨y3.toArray⟩] 49)
 have Y4:=(SBox.new w2 49 #[.int .i64 2,.int .i64 f,.string ⟨x2.toArray⟩,.string ⟨x3.toArray⟩]).alloc (.cells #[.int .i64 3,.int .i64 t,.string ⟨x2.toArray⟩,.string ⟨y3.toArray⟩] 49)
 obtain ⟨q0,q1,q2,q3⟩:=HR.out _ B3
 have X3:=X2.alloc (.cells #[.int .i64 2,.int .i64 f,.string ⟨x2.toArray⟩,.string ⟨x3.toArray⟩] 49)
 have Z4:=SBox.new (w2.alloc (.cells #[.int .i64 2,.int .i64 f,.string ⟨x2.toArray⟩,.string ⟨x3.toArray⟩] 49)) 49 #[.int .i64 3,.int .i64 t,.string ⟨x2.toArray⟩,.string ⟨y3.toArray⟩]
 have hz:(w2.alloc (.cells #[.int .i64 2,.int .i64 f,.string ⟨x2.toArray⟩,.string ⟨x3.toArray⟩] 49)).heap.size=w2.heap.size+1:=Array.size_push ..
 have m4:=X3.cell 4 _ rfl
 have x40:=X4.cell 0 _ rfl
 have x41:=X4.cell 1 _ rfl
 have x42:=X4.cell 2 _ rfl
 have y40:=Y4.cell 0 _ rfl
 have y41:=Y4.cell 1 _ rfl
 have y42:=Y4.cell 2 _ rfl
 have y43:=Y4.cell 3 _ rfl
 have z40:=Z4.cell 0 _ rfl
 have z41:=Z4.cell 1 _ rfl
 have z42:=Z4.cell 2 _ rfl
 have z43:=Z4.cell 3 _ rfl
 have t0:((w2.alloc (.cells #[.int .i64 2,.int .i64 f,.string ⟨x2.toArray⟩,.string ⟨x3.toArray⟩] 49)).alloc (.cells #[.int .i64 3,.int .i64 t,.string ⟨x2.toArray⟩,.string ⟨y3.toArray⟩] 49)).cell? ⟨w2.heap.size,2,none⟩=some (.string ⟨x2.toArray⟩):=Y4.cell 2 _ rfl
 go_wp2_with fail
 refine (DW _ B4).mono ?_
 rintro e' w5 ⟨rfl,b5⟩
 have B5:=bel_trans B4 b5
 have X5:=X4.below b5
 have g2':w5.cell? ⟨w.heap.size,2,none⟩=some (.int .i64 t):=X5.cell 2 _ rfl
 clear t0 p0 p1 p2 p3 q0 q1 q2 q3 d0 d1 d2 d3 d4
 have j1:¬ (q:Int) < 0:=by omega
 have j3:¬ (n:Int)≤(q:Int):=by omega
 obtain ⟨k0,k1,k2,k3⟩:=HZ.out _ B5
 go_wp2_with fail
 go_quiet (fail)
 go_wp2_with fail
 go_ret
 exact ⟨rfl,below_drewN B5 _⟩
set_option maxHeartbeats 4000000 in
theorem rh_s2 (w:World) (f t:Int) (i j:Nat) (n:Nat) (bb off:Nat) (ch:Nat) (ih:n≤ch) (jh:ch≤9223372036854775807) (kh:n≤140737488351232)
 (a b:Nat)  (x2 x3 y3:List UInt8) (e1:(f==t)=false) (hi:i < n) (hj:j < n)
 (HP:Hid (∀ V,Below w.heap.size w V→V.cell? ⟨bb,off+i*4,none⟩=some (.int .i64 2)∧V.cell? ⟨bb,off+i*4+1,none⟩=some (.int .i64 f)∧V.cell? ⟨bb,off+i*4+2,none⟩=some (.string ⟨x2.toArray⟩)∧V.cell? ⟨bb,off+i*4+3,none⟩=some (.string ⟨x3.toArray⟩)))
 (HR:Hid (∀ V,Below w.heap.size w V→V.cell? ⟨bb,off+j*4,none⟩=some (.int .i64 3)∧V.cell? ⟨bb,off+j*4+1,none⟩=some (.int .i64 t)∧V.cell? ⟨bb,off+j*4+2,none⟩=some (.string ⟨x2.toArray⟩)∧V.cell? ⟨bb,off+j*4+3,none⟩=some (.string ⟨y3.toArray⟩)))
 (D1:∀ W,Below w.heap.size w W→Calls Tryz.prog 47 #[.slice (some ⟨bb,off,none⟩) n ch,.int .i64 f] W fun e w'=>e=.returned (.int .i64 (a:Int))∧Below W.heap.size W w')
 (D2:∀ W,Below w.heap.size w W→Calls Tryz.prog 47 #[.slice (some ⟨bb,off,none⟩) n ch,.int .i64 t] W fun e w'=>e=.returned (.int .i64 (b:Int))∧Below W.heap.size W w')
 (v2:x3.isEmpty=false) (q:Nat) (hq:q < n) (z0 z1:Int) (z2 z3:List UInt8) (HZ:Hid (∀ V,Below w.heap.size w V→V.cell? ⟨bb,off+q*4,none⟩=some (.int .i64 z0)∧V.cell? ⟨bb,off+q*4+1,none⟩=some (.int .i64 z1)∧V.cell? ⟨bb,off+q*4+2,none⟩=some (.string ⟨z2.toArray⟩)∧V.cell? ⟨bb,off+q*4+3,none⟩=some (.string ⟨z3.toArray⟩)))
 (DW:∀ W,Below w.heap.size w W→Calls Tryz.prog 43 #[.slice (some ⟨bb,off,none⟩) n ch,.string ⟨x2.toArray⟩,.string ⟨x3.toArray⟩] W fun e w'=>e=.returned (.int .i64 (q:Int))∧Below W.heap.size W w') (v3:(z1==t)=false)
 (DC:∀ W,Below w.heap.size w W→Calls Tryz.prog 47 #[.slice (some ⟨bb,off,none⟩) n ch,.int .i64 z1] W fun e w'=>e=.returned (.int .i64 (-1))∧Below W.heap.size W w') :
 Calls Tryz.prog 39 #[.slice (some ⟨bb,off,none⟩) n ch,.agg #[.int .i64 3,.int .i64 f,.int .i64 t,.int .i64 (i:Int),.int .i64 (j:Int)]] w fun e w'=>e=.returned (.bool false)∧Below w.heap.size w w':=by
 have i1:¬ (a:Int) < 0:=by omega
 have i2:¬ (b:Int) < 0:=by omega
 have g2:¬ (i:Int) < 0:=by omega
 have g3:¬ (n:Int)≤(i:Int):=by omega
 have g4:¬ (j:Int) < 0:=by omega
 have g5:¬ (n:Int)≤(j:Int):=by omega
 have X0:=SBox.new w 71 #[.int .i64 3,.int .i64 f,.int .i64 t,.int .i64 (i:Int),.int .i64 (j:Int)]
 have B0:=(Below.refl w.heap.size w).alloc (Nat.le_refl _) (.cells #[.int .i64 3,.int .i64 f,.int .i64 t,.int .i64 (i:Int),.int .i64 (j:Int)] 71)
 go_enter Tryz.func39,Tryz.ntmps39
 have c1:(w.alloc (.cells #[.int .i64 3,.int .i64 f,.int .i64 t,.int .i64 (i:Int),.int .i64 (j:Int)] 71)).cell? ⟨w.heap.size,1,none⟩=some (.int .i64 f):=X0.cell 1 _ rfl
 go_wp2_with fail
 refine (D1 _ B0).mono ?_
 rintro e' w1 ⟨rfl,b1⟩
 have B1:=bel_trans B0 b1
 have X1:=X0.below b1
 have c2:w1.cell? ⟨w.heap.size,2,none⟩=some (.int .i64 t):=X1.cell 2 _ rfl
 clear c1
 go_wp2_with fail
 refine (D2 _ B1).mono ?_
 rintro e' w2 ⟨rfl,b2⟩
 have B2:=bel_trans B1 b2
 have X2:=X1.below b2
 clear c2
 have d0:w2.cell? ⟨w.heap.size,0,none⟩=some (.int .i64 3):=X2.cell 0 _ rfl
 have d1:w2.cell? ⟨w.heap.size,1,none⟩=some (.int .i64 f):=X2.cell 1 _ rfl
 have d2:w2.cell? ⟨w.heap.size,2,none⟩=some (.int .i64 t):=X2.cell 2 _ rfl
 have d3:w2.cell? ⟨w.heap.size,3,none⟩=some (.int .i64 (i:Int)):=X2.cell 3 _ rfl
 have d4:w2.cell? ⟨w.heap.size,4,none⟩=some (.int .i64 (j:Int)):=X2.cell 4 _ rfl
 obtain ⟨p0,p1,p2,p3⟩:=HP.out _ B2
 have B3:=B2.alloc B2.size (.cells #[.int .i64 2,.int .i64 f,.string ⟨x2.toArray⟩,.string ⟨x3.toArray⟩] 49)
 have B4:=B3.alloc B3.size (.cells #[.int .i64 3,.int .i64 t,.string ⟨x2.toArray⟩,.string ⟨y3.toArray⟩] 49)
 have X4:=(X2.alloc (.cells #[.int .i64 2,.int .i64 f,.string ⟨x2.toArray⟩,.string ⟨x3.toArray⟩] 49)).alloc (.cells #[.int .i64 3,.int .i64 t,.string ⟨x2.toArray⟩,.string ⟨y3.toArray⟩] 49)
 have Y4:=(SBox.new w2 49 #[.int .i64 2,.int .i64 f,.string ⟨x2.toArray⟩,.string ⟨x3.toArray⟩]).alloc (.cells #[.int .i64 3,.int .i64 t,.string ⟨x2.toArray⟩,.string ⟨y3.toArray⟩] 49)
 obtain ⟨q0,q1,q2,q3⟩:=HR.out _ B3
 have X3:=X2.alloc (.cells #[.int .i64 2,.int .i64 f,.string ⟨x2.toArray⟩,.string ⟨x3.toArray⟩] 49)
 have Z4:=SBox.new (w2.alloc (.cells #[.int .i64 2,.int .i64 f,.string ⟨x2.toArray⟩,.string ⟨x3.toArray⟩] 49)) 49 #[.int .i64 3,.int .i64 t,.string ⟨x2.toArray⟩,.string ⟨y3.toArray⟩]
 have hz:(w2.alloc (.cells #[.int .i64 2,.int .i64 f,.string ⟨x2.toArray⟩,.string ⟨x3.toArray⟩] 49)).heap.size=w2.heap.size+1:=Array.size_push ..
 have m4:=X3.cell 4 _ rfl
 have x40:=X4.cell 0 _ rfl
 have x41:=X4.cell 1 _ rfl
 have x42:=X4.cell 2 _ rfl
 have y40:=Y4.cell 0 _ rfl
 have y41:=Y4.cell 1 _ rfl
 have y42:=Y4.cell 2 _ rfl
 have y43:=Y4.cell 3 _ rfl
 have z40:=Z4.cell 0 _ rfl
 have z41:=Z4.cell 1 _ rfl
 have z42:=Z4.cell 2 _ rfl
 have z43:=Z4.cell 3 _ rfl
 have t0:((w2.alloc (.cells #[.int .i64 2,.int .i64 f,.string ⟨x2.toArray⟩,.string ⟨x3.toArray⟩] 49)).alloc (.cells #[.int .i64 3,.int .i64 t,.string ⟨x2.toArray⟩,.string ⟨y3.toArray⟩] 49)).cell? ⟨w2.heap.size,2,none⟩=some (.string ⟨x2.toArray⟩):=Y4.cell 2 _ rfl
 go_wp2_with fail
 refine (DW _ B4).mono ?_
 rintro e' w5 ⟨rfl,b5⟩
 have B5:=bel_trans B4 b5
 have X5:=X4.below b5
 have g2':w5.cell? ⟨w.heap.size,2,none⟩=some (.int .i64 t):=X5.cell 2 _ rfl
 clear t0 p0 p1 p2 p3 q0 q1 q2 q3 d0 d1 d2 d3 d4
 have j1:¬ (q:Int) < 0:=by omega
 have j3:¬ (n:Int)≤(q:Int):=by omega
 obtain ⟨k0,k1,k2,k3⟩:=HZ.out _ B5
 go_wp2_with fail
 go_quiet (fail)
 generalize hV:World.drewN _ _=V
 have BV:Below w.heap.size w V:=by rw [← hV];exact below_drewN B5 _
 clear hV k0 k1 k2 k3 g2'
 obtain ⟨_,l1,_,_⟩:=HZ.out _ BV
 go_wp2_with fail
 refine (DC _ BV).mono ?_
 rintro e' w6 ⟨rfl,b6⟩
 go_wp2_with fail
 go_ret
 exact ⟨rfl,bel_trans BV b6⟩
set_option maxHeartbeats 4000000 in
theorem rh_s3 (w:World) (f t:Int) (i j:Nat) (n:Nat) (bb off:Nat) (ch:Nat) (ih:n≤ch) (jh:ch≤9223372036854775807) (kh:n≤140737488351232)
 (a b:Nat)  (x2 x3 y3:List UInt8) (e1:(f==t)=false) (hi:i < n) (hj:j < n)
 (HP:Hid (∀ V,Below w.heap.size w V→V.cell? ⟨bb,off+i*4,none⟩=some (.int .i64 2)∧V.cell? ⟨bb,off+i*4+1,none⟩=some (.int .i64 f)∧V.cell? ⟨bb,off+i*4+2,none⟩=some (.string ⟨x2.toArray⟩)∧V.cell? ⟨bb,off+i*4+3,none⟩=some (.string ⟨x3.toArray⟩)))
 (HR:Hid (∀ V,Below w.heap.size w V→V.cell? ⟨bb,off+j*4,none⟩=some (.int .i64 3)∧V.cell? ⟨bb,off+j*4+1,none⟩=some (.int .i64 t)∧V.cell? ⟨bb,off+j*4+2,none⟩=some (.string ⟨x2.toArray⟩)∧V.cell? ⟨bb,off+j*4+3,none⟩=some (.string ⟨y3.toArray⟩)))
 (D1:∀ W,Below w.heap.size w W→Calls Tryz.prog 47 #[.slice (some ⟨bb,off,none⟩) n ch,.int .i64 f] W fun e w'=>e=.returned (.int .i64 (a:Int))∧Below W.heap.size W w')
 (D2:∀ W,Below w.heap.size w W→Calls Tryz.prog 47 #[.slice (some ⟨bb,off,none⟩) n ch,.int .i64 t] W fun e w'=>e=.returned (.int .i64 (b:Int))∧Below W.heap.size W w')
 (v2:x3.isEmpty=false) (q:Nat) (hq:q < n) (z0 z1:Int) (z2 z3:List UInt8) (HZ:Hid (∀ V,Below w.heap.size w V→V.cell? ⟨bb,off+q*4,none⟩=some (.int .i64 z0)∧V.cell? ⟨bb,off+q*4+1,none⟩=some (.int .i64 z1)∧V.cell? ⟨bb,off+q*4+2,none⟩=some (.string ⟨z2.toArray⟩)∧V.cell? ⟨bb,off+q*4+3,none⟩=some (.string ⟨z3.toArray⟩)))
 (DW:∀ W,Below w.heap.size w W→Calls Tryz.prog 43 #[.slice (some ⟨bb,off,none⟩) n ch,.string ⟨x2.toArray⟩,.string ⟨x3.toArray⟩] W fun e w'=>e=.returned (.int .i64 (q:Int))∧Below W.heap.size W w') (v3:(z1==t)=false) (c:Nat)
 (DC:∀ W,Below w.heap.size w W→Calls Tryz.prog 47 #[.slice (some ⟨bb,off,none⟩) n ch,.int .i64 z1] W fun e w'=>e=.returned (.int .i64 (c:Int))∧Below W.heap.size W w') :
 Calls Tryz.prog 39 #[.slice (some ⟨bb,off,none⟩) n ch,.agg #[.int .i64 3,.int .i64 f,.int .i64 t,.int .i64 (i:Int),.int .i64 (j:Int)]] w fun e w'=>e=.returned (.bool (decide (c < b)))∧Below w.heap.size w w':=by
 have i1:¬ (a:Int) < 0:=by omega
 have i2:¬ (b:Int) < 0:=by omega
 have g2:¬ (i:Int) < 0:=by omega
 have g3:¬ (n:Int)≤(i:Int):=by omega
 have g4:¬ (j:Int) < 0:=by omega
 have g5:¬ (n:Int)≤(j:Int):=by omega
 have X0:=SBox.new w 71 #[.int .i64 3,.int .i64 f,.int .i64 t,.int .i64 (i:Int),.int .i64 (j:Int)]
 have B0:=(Below.refl w.heap.size w).alloc (Nat.le_refl _) (.cells #[.int .i64 3,.int .i64 f,.int .i64 t,.int .i64 (i:Int),.int .i64 (j:Int)] 71)
 go_enter Tryz.func39,Tryz.ntmps39
 have c1:(w.alloc (.cells #[.int .i64 3,.int .i64 f,.int .i64 t,.int .i64 (i:Int),.int .i64 (j:Int)] 71)).cell? ⟨w.heap.size,1,none⟩=some (.int .i64 f):=X0.cell 1 _ rfl
 go_wp2_with fail
 refine (D1 _ B0).mono ?_
 rintro e' w1 ⟨rfl,b1⟩
 have B1:=bel_trans B0 b1
 have X1:=X0.below b1
 have c2:w1.cell? ⟨w.heap.size,2,none⟩=some (.int .i64 t):=X1.cell 2 _ rfl
 clear c1
 go_wp2_with fail
 refine (D2 _ B1).mono ?_
 rintro e' w2 ⟨rfl,b2⟩
 have B2:=bel_trans B1 b2
 have X2:=X1.below b2
 clear c2
 have d0:w2.cell? ⟨w.heap.size,0,none⟩=some (.int .i64 3):=X2.cell 0 _ rfl
 have d1:w2.cell? ⟨w.heap.size,1,none⟩=some (.int .i64 f):=X2.cell 1 _ rfl
 have d2:w2.cell? ⟨w.heap.size,2,none⟩=some (.int .i64 t):=X2.cell 2 _ rfl
 have d3:w2.cell? ⟨w.heap.size,3,none⟩=some (.int .i64 (i:Int)):=X2.cell 3 _ rfl
 have d4:w2.cell? ⟨w.heap.size,4,none⟩=some (.int .i64 (j:Int)):=X2.cell 4 _ rfl
 obtain ⟨p0,p1,p2,p3⟩:=HP.out _ B2
 have B3:=B2.alloc B2.size (.cells #[.int .i64 2,.int .i64 f,.string ⟨x2.toArray⟩,.string ⟨x3.toArray⟩] 49)
 have B4:=B3.alloc B3.size (.cells #[.int .i64 3,.int .i64 t,.string ⟨x2.toArray⟩,.string ⟨y3.toArray⟩] 49)
 have X4:=(X2.alloc (.cells #[.int .i64 2,.int .i64 f,.string ⟨x2.toArray⟩,.string ⟨x3.toArray⟩] 49)).alloc (.cells #[.int .i64 3,.int .i64 t,.string ⟨x2.toArray⟩,.string ⟨y3.toArray⟩] 49)
 have Y4:=(SBox.new w2 49 #[.int .i64 2,.int .i64 f,.string ⟨x2.toArray⟩,.string ⟨x3.toArray⟩]).alloc (.cells #[.int .i64 3,.int .i64 t,.string ⟨x2.toArray⟩,.string ⟨y3.toArray⟩] 49)
 obtain ⟨q0,q1,q2,q3⟩:=HR.out _ B3
 have X3:=X2.alloc (.cells #[.int .i64 2,.int .i64 f,.string ⟨x2.toArray⟩,.string ⟨x3.toArray⟩] 49)
 have Z4:=SBox.new (w2.alloc (.cells #[.int .i64 2,.int .i64 f,.string ⟨x2.toArray⟩,.string ⟨x3.toArray⟩] 49)) 49 #[.int .i64 3,.int .i64 t,.string ⟨x2.toArray⟩,.string ⟨y3.toArray⟩]
 have hz:(w2.alloc (.cells #[.int .i64 2,.int .i64 f,.string ⟨x2.toArray⟩,.string ⟨x3.toArray⟩] 49)).heap.size=w2.heap.size+1:=Array.size_push ..
 have m4:=X3.cell 4 _ rfl
 have x40:=X4.cell 0 _ rfl
 have x41:=X4.cell 1 _ rfl
 have x42:=X4.cell 2 _ rfl
 have y40:=Y4.cell 0 _ rfl
 have y41:=Y4.cell 1 _ rfl
 have y42:=Y4.cell 2 _ rfl
 have y43:=Y4.cell 3 _ rfl
 have z40:=Z4.cell 0 _ rfl
 have z41:=Z4.cell 1 _ rfl
 have z42:=Z4.cell 2 _ rfl
 have z43:=Z4.cell 3 _ rfl
 have j2:(0:Int)≤(c:Int):=by omega
 have t0:((w2.alloc (.cells #[.int .i64 2,.int .i64 f,.string ⟨x2.toArray⟩,.string ⟨x3.toArray⟩] 49)).alloc (.cells #[.int .i64 3,.int .i64 t,.string ⟨x2.toArray⟩,.string ⟨y3.toArray⟩] 49)).cell? ⟨w2.heap.size,2,none⟩=some (.string ⟨x2.toArray⟩):=Y4.cell 2 _ rfl
 go_wp2_with fail
 refine (DW _ B4).mono ?_
 rintro e' w5 ⟨rfl,b5⟩
 have B5:=bel_trans B4 b5
 have X5:=X4.below b5
 have g2':w5.cell? ⟨w.heap.size,2,none⟩=some (.int .i64 t):=X5.cell 2 _ rfl
 clear t0 p0 p1 p2 p3 q0 q1 q2 q3 d0 d1 d2 d3 d4
 have j1:¬ (q:Int) < 0:=by omega
 have j3:¬ (n:Int)≤(q:Int):=by omega
 obtain ⟨k0,k1,k2,k3⟩:=HZ.out _ B5
 go_wp2_with fail
 go_quiet (fail)
 generalize hV:World.drewN _ _=V
 have BV:Below w.heap.size w V:=by rw [← hV];exact below_drewN B5 _
 clear hV k0 k1 k2 k3 g2'
 obtain ⟨_,l1,_,_⟩:=HZ.out _ BV
 go_wp2_with fail
 refine (DC _ BV).mono ?_
 rintro e' w6 ⟨rfl,b6⟩
 go_wp2_with fail
 go_ret
 exact ⟨rfl,bel_trans BV b6⟩
set_option maxHeartbeats 2000000 in
theorem rholdsK_any (h:List Ev) (w:World) (bb off ch n:Nat) (hn:h.length=n) (ih:n≤ch) (jh:ch≤9223372036854775807) (kh:n≤140737488351232) (k f t:Int) (g1:f≠t) (i j a b:Nat) (hi:i < n) (hj:j < n)
 (HD:∀ (t:Int) W,Below w.heap.size w W→Calls Tryz.prog 47 #[.slice (some ⟨bb,off,none⟩) n ch,.int .i64 t] W fun e w'=>e=.returned (.int .i64 (oI (commL h t)))∧Below W.heap.size W w')
 (HW:∀ (key val:List UInt8) W,Below w.heap.size w W→Calls Tryz.prog 43 #[.slice (some ⟨bb,off,none⟩) n ch,.string ⟨key.toArray⟩,.string ⟨val.toArray⟩] W fun e w'=>e=.returned (.int .i64 (oI (writerL h key val)))∧Below W.heap.size W w')
 (HQ:∀ j,j < n→∀ V,Below w.heap.size w V→V.cell? ⟨bb,off+j*4,none⟩=some (.int .i64 (ev h j).1)∧V.cell? ⟨bb,off+j*4+1,none⟩=some (.int .i64 (ev h j).2.1)∧V.cell? ⟨bb,off+j*4+2,none⟩=some (.string ⟨(ev h j).2.2.1.toArray⟩)∧V.cell? ⟨bb,off+j*4+3,none⟩=some (.string ⟨(ev h j).2.2.2.toArray⟩))
 (ca:commL h f=some a) (cb:commL h t=some b) :
 Calls Tryz.prog 39 #[.slice (some ⟨bb,off,none⟩) n ch,.agg #[.int .i64 k,.int .i64 f,.int .i64 t,.int .i64 (i:Int),.int .i64 (j:Int)]] w fun e w'=>e=.returned (.bool (holdsK h k f t (ev h i) (ev h j) a b))∧Below w.heap.size w w':=by
 have e1:(f==t)=false:=beq_eq_false_iff_ne.2 g1
 have D1:=HD f
 have D2:=HD t
 rw [ca] at D1
 rw [cb] at D2
 simp only [oI] at D1 D2
 have HP:=HQ i hi
 have HR:=HQ j hj
 obtain ⟨⟨x0,x1,x2,x3⟩,hx⟩:∃ x,ev h i=x:=⟨_,rfl⟩
 obtain ⟨⟨y0,y1,y2,y3⟩,hy⟩:∃ x,ev h j=x:=⟨_,rfl⟩
 rw [hx] at HP ⊢
 rw [hy] at HR ⊢
 simp only at HP HR
 unfold holdsK
 simp only
 by_cases m1:x2=y2
 case neg =>
  rw [if_pos m1]
  exact rh_k1 w k f t i j n bb off ch ih jh kh a b x0 x1 y0 y1 x2 x3 y2 y3 e1 hi hj HP HR D1 D2 (by simpa using m1) (beq_eq_false_iff_ne.2 m1) m1 (decide_eq_false m1)
 subst m1
 rw [if_neg (by simp)]
 by_cases m2:x1=f
 case neg =>
  rw [if_pos m2]
  exact rh_k2 w k f t i j n bb off ch ih jh kh a b x0 x1 y0 y1 x2 x3 y3 e1 hi hj HP HR D1 D2 (by simpa using m2)
 subst m2
 rw [if_neg (by simp)]
 by_cases m3:y1=t
 case neg =>
  rw [if_pos m3]
  exact rh_k3 w k x1 t i j n bb off ch ih jh kh a b x0 y0 y1 x2 x3 y3 e1 hi hj HP HR D1 D2 (by simpa using m3)
 subst m3
 rw [if_neg (by simp)]
 by_cases r1:k=1
 ·subst r1
  rw [if_pos rfl]
  by_cases s0:x0=3
  case neg =>
   rw [decide_eq_false s0]
   exact rh_w0 w x1 y1 i j n bb off ch ih jh kh a b x0 y0 x2 x3 y3 e1 hi hj HP HR D1 D2 (beq_eq_false_iff_ne.2 s0)
  subst s0
  by_cases s1:y0=3
  case neg =>
   rw [decide_eq_false s1]
   exact rh_w1 w x1 y1 i j n bb off ch ih jh kh a b y0 x2 x3 y3 e1 hi hj HP HR D1 D2 (beq_eq_false_iff_ne.2 s1)
  subst s1
  by_cases s2:a < b
  ·rw [decide_eq_true s2]
   exact rh_w3 w x1 y1 i j n bb off ch ih jh kh a b x2 x3 y3 e1 hi hj HP HR D1 D2 (by omega) s2
  ·rw [decide_eq_false s2]
   exact rh_w2 w x1 y1 i j n bb off ch ih jh kh a b x2 x3 y3 e1 hi hj HP HR D1 D2 (by omega) s2
 rw [if_neg r1]
 by_cases r2:k=2
 ·subst r2
  rw [if_pos rfl]
  by_cases s0:x0=3
  case neg =>
   rw [decide_eq_false s0]
   exact rh_r0 w x1 y1 i j n bb off ch ih jh kh a b x0 y0 x2 x3 y3 e1 hi hj HP HR D1 D2 (beq_eq_false_iff_ne.2 s0)
  subst s0
  by_cases s1:y0=2
  case neg =>
   rw [decide_eq_false s1]
   exact rh_r1 w x1 y1 i j n bb off ch ih jh kh a b y0 x2 x3 y3 e1 hi hj HP HR D1 D2 (beq_eq_false_iff_ne.2 s1)
  subst s1
  by_cases s2:x3=y3
  ·subst s2
   rw [decide_eq_true (rfl:x3=x3)]
   exact rh_r3 w x1 y1 i j n bb off ch ih jh kh a b x2 x3 e1 hi hj HP HR D1 D2
  ·rw [decide_eq_false s2]
   exact rh_r2 w x1 y1 i j n bb off ch ih jh kh a b x2 x3 y3 e1 hi hj HP HR D1 D2 (beq_eq_false_iff_ne.2 s2)
 rw [if_neg r2]
 by_cases r3:k=3
 case neg =>
  rw [if_pos r3]
  exact rh_n0 w k x1 y1 i j n bb off ch ih jh kh a b x0 y0 x2 x3 y3 e1 hi hj HP HR D1 D2 (beq_eq_false_iff_ne.2 r1) (beq_eq_false_iff_ne.2 r2) (by simpa using r3)
 subst r3
 rw [if_neg (by simp)]
 by_cases s0:x0=2
 case neg =>
  rw [if_pos s0]
  exact rh_n1 w x1 y1 i j n bb off ch ih jh kh a b x0 y0 x2 x3 y3 e1 hi hj HP HR D1 D2 (by simpa using s0)
 subst s0
 rw [if_neg (by simp)]
 by_cases s1:y0=3
 case neg =>
  rw [if_pos s1]
  exact rh_n2 w x1 y1 i j n bb off ch ih jh kh a b y0 x2 x3 y3 e1 hi hj HP HR D1 D2 (by simpa using s1)
 subst s1
 rw [if_neg (by simp)]
 by_cases s2:x3=[]
 ·rw [if_pos s2]
  exact rh_n3 w x1 y1 i j n bb off ch ih jh kh a b x2 x3 y3 e1 hi hj HP HR D1 D2 (by rw [s2];rfl)
 rw [if_neg s2]
 have v2:x3.isEmpty=false:=ne_nil7 x3 s2
 have DW:=HW x2 x3
 rcases cw:writerL h x2 x3 with _ | q
 ·rw [cw] at DW
  exact rh_s0 w x1 y1 i j n bb off ch ih jh kh a b x2 x3 y3 e1 hi hj HP HR D1 D2 v2 DW
 have hq:q < n:=by rw [← hn];exact ((fi_some _ _ _).1 cw).1
 rw [cw] at DW
 simp only [oI] at DW ⊢
 have HZ:=HQ q hq
 have tz:tx h q=(ev h q).2.1:=rfl
 obtain ⟨⟨z0,z1,z2,z3⟩,hz⟩:∃ x,ev h q=x:=⟨_,rfl⟩
 rw [hz] at HZ tz
 simp only at HZ tz
 rw [tz]
 by_cases s3:z1=y1
 ·subst s3
  rw [if_pos rfl]
  exact rh_s1 w x1 z1 i j n bb off ch ih jh kh a b x2 x3 y3 e1 hi hj HP HR D1 D2 v2 q hq z0 z2 z3 HZ DW
 rw [if_neg s3]
 have DC:=HD z1
 rcases cz:commL h z1 with _ | c
 ·rw [cz] at DC
  exact rh_s2 w x1 y1 i j n bb off ch ih jh kh a b x2 x3 y3 e1 hi hj HP HR D1 D2 v2 q hq z0 z1 z2 z3 HZ DW (beq_eq_false_iff_ne.2 s3) DC
 rw [cz] at DC
 simp only [oI] at DC ⊢
 exact rh_s3 w x1 y1 i j n bb off ch ih jh kh a b x2 x3 y3 e1 hi hj HP HR D1 D2 v2 q hq z0 z1 z2 z3 HZ DW (beq_eq_false_iff_ne.2 s3) c DC
set_option maxHeartbeats 2000000 in
theorem rholds_any (h:List Ev) (v:Value) (w:World) (hT:IsEvs w v h) (k f t I J:Int) :
 Calls Tryz.prog 39 #[v,.agg #[.int .i64 k,.int .i64 f,.int .i64 t,.int .i64 I,.int .i64 J]] w fun e w'=>e=.returned (.bool (holdsC h (k,f,t,I,J)))∧Below w.heap.size w w':=by
 have HD:∀ (t:Int) W,Below w.heap.size w W→Calls Tryz.prog 47 #[v,.int .i64 t] W fun e w'=>e=.returned (.int .i64 (oI (commL h t)))∧Below W.heap.size W w':=fun t W hb=>rcomm_any h v W (hT.below hb) t
 have HW:∀ (key val:List UInt8) W,Below w.heap.size w W→Calls Tryz.prog 43 #[v,.string ⟨key.toArray⟩,.string ⟨val.toArray⟩] W fun e w'=>e=.returned (.int .i64 (oI (writerL h key val)))∧Below W.heap.size W w':=fun key val W hb=>rwriter_any h v W (hT.below hb) key val
 obtain ⟨ah,ch,rfl,ih,jh,kh,HCh⟩:=hT.reads
 unfold holdsC
 simp only
 obtain ⟨n,hn⟩:∃ n,h.length=n:=⟨_,rfl⟩
 rw [hn] at ih kh HD HW ⊢
 have D1:=HD f
 have D2:=HD t
 rcases ca:commL h f with _ | a
 ·rw [ca] at D1
  exact rh_a w k f t I J n ah ch ih jh kh _ D1 D2
 rw [ca] at D1
 simp only [oI] at D1 ⊢
 rcases cb:commL h t with _ | b
 ·rw [cb] at D2
  exact rh_b w k f t I J n ah ch ih jh kh a D1 D2
 rw [cb] at D2
 simp only [oI] at D2 ⊢
 by_cases g1:f=t
 ·subst g1
  rw [if_pos rfl]
  exact rh_c w k f I J n ah ch ih jh kh a b D1 D2
 have e1:(f==t)=false:=beq_eq_false_iff_ne.2 g1
 rw [if_neg g1]
 by_cases g2:I < 0
 ·rw [if_pos g2]
  exact rh_d w k f t I J n ah ch ih jh kh a b D1 D2 e1 g2
 rw [if_neg g2]
 by_cases g3:(n:Int)≤I
 ·rw [if_pos g3]
  exact rh_e w k f t I J n ah ch ih jh kh a b D1 D2 e1 g2 g3
 rw [if_neg g3]
 by_cases g4:J < 0
 ·rw [if_pos g4]
  exact rh_f w k f t I J n ah ch ih jh kh a b D1 D2 e1 g2 g3 g4
 rw [if_neg g4]
 by_cases g5:(n:Int)≤J
 ·rw [if_pos g5]
  exact rh_g w k f t I J n ah ch ih jh kh a b D1 D2 e1 g2 g3 g4 g5
 rw [if_neg g5]
 obtain ⟨i,rfl⟩:∃ i:Nat,I=(i:Int):=⟨I.toNat,by omega⟩
 obtain ⟨j,rfl⟩:∃ j:Nat,J=(j:Int):=⟨J.toNat,by omega⟩
 obtain ⟨bb,off,rfl,HQ⟩:=HCh.out (by omega)
 rw [hn] at HQ
 rw [Int.toNat_natCast,Int.toNat_natCast]
 exact rholdsK_any h w bb off ch n hn ih jh kh k f t g1 i j a b (by omega) (by omega) HD HW HQ.out ca cb
theorem mem_getD {l:List Int} {k:Nat} {x:Int} (hk:k < l.length) (h:l.getD k 0=x):x∈l:=by
 rw [getD_at l 0 k hk] at h
 rw [← h]
 exact List.getElem_mem hk
theorem not_mem_getD {l:List Int} {x:Int} (h:∀ j,j < l.length→l.getD j 0≠x):¬ x∈l:=fun hm=>by
 obtain ⟨j,hj,e⟩:=List.getElem_of_mem hm
 exact h j hj (by rw [getD_at l 0 j hj];exact e)
def dropI (x:Int) (l:List Int):List Int:=l.filter fun y=>decide (y≠x)
set_option maxHeartbeats 1000000 in
theorem rhas_any (v:Value) (l:List Int) (x:Int) (w:World) (hT:IsInts w v l) :
 Calls Tryz.prog 72 #[v,.int .i64 x] w fun e w'=>e=.returned (Value.bool (decide (x∈l)))∧Below w.heap.size w w':=by
 obtain ⟨a,cap,rfl,h1,h2,h3,HC⟩:=IsInts.reads hT
 obtain ⟨n,hn⟩:∃ n,l.length=n:=⟨_,rfl⟩
 have HN:Hid (l.length=n):=hn
 obtain ⟨r,hr⟩:∃ r,(Value.bool (decide (x∈l)))=r:=⟨_,rfl⟩
 have HR:Hid ((Value.bool (decide (x∈l)))=r):=hr
 rw [hr]
 rw [hn] at h1 h3 ⊢
 clear hT hn hr
 go_enter Tryz.func72,Tryz.ntmps72
 go_wp2_with fail
 go_loopw [5] (fun i wr=>∃ k:Nat,k≤n∧i=.int .i64 k∧Hid (∀ j,j < k→l.getD j 0≠x)∧Below w.heap.size w wr) (fun i _=>n - (intOf i).toNat)
 case atStart=>exact ⟨0,Nat.zero_le _,rfl,(fun j hj=>by omega),Below.refl _ _⟩
 case round =>
  obtain ⟨k,hk,rfl,HA,hbw⟩:=hrel
  by_cases hlt:k < n
  ·have hk1:k < l.length:=by have:=HN.out;omega
   have jk:(k:Int) < (n:Int):=by omega
   obtain ⟨bb,off,rfl,HQ⟩:=HC.out (by omega)
   have c0:=HQ.out k hk1 _ hbw
   obtain ⟨y,hy⟩:∃ y,l.getD k 0=y:=⟨_,rfl⟩
   rw [hy] at c0
   by_cases d:y=x
   ·have e1:(y==x)=true:=by rw [d];exact beq_self_eq_true _
    have HF:Hid (r=Value.bool true):=by
     show _=_
     rw [← HR.out]
     rw [decide_eq_true (mem_getD hk1 (hy.trans d))]
    clear d hy
    go_wp2_with fail
    go_ret
    exact ⟨by rw [HF.out];rfl,hbw⟩
   ·have e1:(y==x)=false:=beq_eq_false_iff_ne.2 d
    have HA2:Hid (∀ j,j < k+1→l.getD j 0≠x):=fun j hj=>by
     rcases Nat.lt_or_ge j k with hj2 | hj2
     ·exact HA.out j hj2
     ·obtain rfl:j=k:=by omega
      rw [hy]
      exact d
    clear d hy
    go_wp2_with fail
    refine ⟨⟨k+1,by omega,by first | go_num | simp,HA2,hbw⟩,by simp [intOf];omega⟩
  ·obtain rfl:k=n:=by omega
   have jk:¬ (k:Int) < (k:Int):=by omega
   have HF:Hid (r=Value.bool false):=by
    show _=_
    rw [← HR.out]
    rw [decide_eq_false (not_mem_getD (fun j hj=>HA.out j (by rw [← HN.out];exact hj)))]
   go_wp2_with fail
   go_ret
   exact ⟨by rw [HF.out];rfl,hbw⟩
set_option maxHeartbeats 1000000 in
theorem rwithout_any (v:Value) (l:List Int) (x:Int) (w:World) (hT:IsInts w v l) (hn:l.length≤1000000000) :
 Calls Tryz.prog 73 #[v,.int .i64 x] w fun e w'=>InRow w (dropI x l) e w':=by
 obtain ⟨i0,hi,hz0,hz1,hz2⟩:=info_parts int_info
 obtain ⟨a,cap,rfl,h1,h2,h3,HC⟩:=IsInts.reads hT
 obtain ⟨n,hn'⟩:∃ n,l.length=n:=⟨_,rfl⟩
 have HN:Hid (l.length=n):=hn'
 rw [hn'] at h1 h3 hn ⊢
 clear hT hn'
 go_enter Tryz.func73,Tryz.ntmps73
 go_wp2_with fail
 go_loopw [5,6] (fun r i wr=>∃ (k c:Nat),k≤n∧c≤k∧i=.int .i64 k∧Hid ((dropI x (l.take k)).length=c)∧Below w.heap.size w wr∧wr.ownsRow w.heap.size 3 1 r c (recV intV (dropI x (l.take k)))) (fun _ i _=>n - (intOf i).toNat)
 case atStart=>exact ⟨0,0,Nat.zero_le _,Nat.zero_le _,rfl,rfl,Below.refl _ _,World.ownsRow_nil _ _ _ _⟩
 case round =>
  obtain ⟨k,c,hk,hc,rfl,HL,hbw,hrow⟩:=hrel
  by_cases hlt:k < n
  ·have hk1:k < l.length:=by have:=HN.out;omega
   have jk:(k:Int) < (n:Int):=by omega
   obtain ⟨bb,off,rfl,HQ⟩:=HC.out (by omega)
   have c0:=HQ.out k hk1 _ hbw
   obtain ⟨y,hy⟩:∃ y,l.getD k 0=y:=⟨_,rfl⟩
   rw [hy] at c0
   have HT:Hid (dropI x (l.take (k+1))=dropI x (l.take k)++(if y=x then [] else [y])):=by
    show _=_
    unfold dropI
    rw [List.take_succ_eq_append_getElem hk1,List.filter_append,← getD_at l 0 k hk1,hy]
    congr 1
    by_cases d:y=x
    ·rw [if_pos d];simp [d]
    ·rw [if_neg d];simp [d]
   clear hy
   by_cases d:y=x
   ·have e1:(y != x)=false:=by rw [d];simp
    rw [if_pos d,List.append_nil] at HT
    clear d
    go_wp2_with fail
    refine ⟨⟨k+1,c,by omega,by omega,by first | go_num | simp,by show _=_;rw [HT.out];exact HL.out,hbw,by rw [HT.out];exact hrow⟩,by simp [intOf];omega⟩
   ·have e1:(y != x)=true:=bne_iff_ne.2 d
    rw [if_neg d] at HT
    clear d
    obtain ⟨DR,hDR⟩:∃ d:List Int,dropI x (l.take k)=d:=⟨_,rfl⟩
    rw [hDR] at hrow HT HL
    have sz:=hbw.size
    go_wp2_with (at_builtin;refine wpList_append_own _ rfl _ _ 23 rfl w.heap.size 3 i0 (.int .i64 0) 1 8 Tryz.underlying23 hi hz0 hz1 hz2 rfl (by decide) _ _ _ rfl (hrow.alloc _) ⟨wr.heap.size,0,none⟩ 1 1 [.int .i64 y] rfl rfl ?d1 ?d2 ?d3 ?d4 ?d5 ?_)
    case d1=>intro j u hj;match j,hj with
     | 0,hj=>simp at hj;subst hj;first | (simp [Addr.add];done) | exact cell_new7 (by simp) rfl
    case d2=>intro u hu;simp at hu;subst hu;rfl
    case d3=>unfold maxLen;omega
    case d4=>omega
    case d5=>simp;omega
    intro v' w3 own3 g3 _
    have B3:Below w.heap.size w w3:=(hbw.alloc hbw.size _).grown g3 (by simp;omega) (fun j hj=>(hrow.lt j hj).1)
    go_wp2_with fail
    refine ⟨⟨k+1,c+1,by omega,by omega,by first | go_num | simp,by show _=_;rw [HT.out,List.length_append,HL.out];rfl,B3,by rw [HT.out,recV_append];exact own3⟩,by simp [intOf];omega⟩
  ·obtain rfl:k=n:=by omega
   have jk:¬ (k:Int) < (k:Int):=by omega
   have HE:Hid (dropI x (l.take k)=dropI x l):=by show _=_;rw [← HN.out,List.take_length]
   go_wp2_with fail
   go_ret
   refine ⟨_,rfl,hbw,?_⟩
   rw [← HE.out,HL.out]
   exact hrow
end Go.Proofs.YtdlcimfifkhllaaGreat
namespace Go.Proofs.YtdlcimfifkhllaaGreat
set_option maxRecDepth 100000
open Go.RowKit
set_option linter.unusedVariables false
def Apart11 (r v:Value):Prop:=∀ g,v.ownBlock=some g→r.ownBlock≠some g
theorem apart11_kept {W W':World} {B e k n:Nat} {r v:Value} {xs:List Value} (h:W.ownsRow B e k v n xs) (hg:W.grownBy W' r.ownBlock) (ha:Apart11 r v):W'.ownsRow B e k v n xs:=by
 refine h.kept hg ?_
 cases hv:v.ownBlock with
 | none=>exact .inl rfl
 | some g=>exact .inr (fun e=>ha g hv (by rw [← e]))
theorem apart11_low {W W':World} {B C e k e' k' n n':Nat} {r v:Value} {xs ys:List Value} (hr:W.ownsRow B e k r n xs) (hv:W'.ownsRow C e' k' v n' ys) (hC:W.heap.size≤C):Apart11 r v:=by
 intro g h1 h2
 have:=(hr.lt g h2).2
 have:=(hv.lt g h1).1
 omega
theorem apart11_nil (v:Value) (n c:Nat):Apart11 (.slice none n c) v:=fun g _ h=>by simp [Value.ownBlock] at h
def Shp (v:Value):Prop:=v=.slice none 0 0∨∃ ad n c,v=.slice (some ad) n c
theorem Shp.own {W:World} {B e k n:Nat} {v:Value} {xs:List Value} (h:W.ownsRow B e k v n xs):Shp v:=by
 rcases h.2 with ⟨rfl,_⟩ | ⟨g,cap,cur,rfl,_⟩
 ·exact .inl rfl
 ·exact .inr ⟨_,_,_,rfl⟩
def slLen:Value→Nat
 | .slice _ n _=>n
 | _=>0
section
variable {α:Type}
def freeTo (l:List (Sp α)) (left:List Int) (x:Int) (z:Nat):Bool:=freeB (l.take z) left x
theorem freeTo_next (l:List (Sp α)) (left:List Int) (x:Int) (z:Nat) (hz:z < l.length):freeTo l left x (z+1)=(freeTo l left x z&&!(decide (l[z].2.1=x)&&decide (l[z].1∈left))):=by
 unfold freeTo freeB
 rw [List.take_succ_eq_append_getElem hz,List.all_append]
 simp
theorem freeTo_all (l:List (Sp α)) (left:List Int) (x:Int):freeTo l left x l.length=freeB l left x:=by unfold freeTo;rw [List.take_length]
def bestTo (l:List (Sp α)) (left:List Int) (q:Nat):Option Int:=minI ((left.take q).filter fun x=>freeB l left x)
theorem minI_snoc (L:List Int) (x:Int):minI (L++[x])=match minI L with
 | none=>some x
 | some y=>some (if x < y then x else y):=by
 cases hm:minI L with
 | none =>
   rw [(minI_none L).1 hm]
   rfl
 | some y =>
   simp only
   obtain ⟨h1,h2⟩:=(minI_some L y).1 hm
   rw [minI_some]
   by_cases hx:x < y
   ·rw [if_pos hx]
    refine ⟨by simp,fun z hz=>?_⟩
    rcases List.mem_append.1 hz with hz | hz
    ·have:=h2 z hz;omega
    ·rw [List.mem_singleton.1 hz];exact Int.le_refl _
   ·rw [if_neg hx]
    refine ⟨List.mem_append.2 (.inl h1),fun z hz=>?_⟩
    rcases List.mem_append.1 hz with hz | hz
    ·exact h2 z hz
    ·rw [List.mem_singleton.1 hz];omega
theorem bestTo_no (l:List (Sp α)) (left:List Int) (q:Nat) (hq:q < left.length) (h:freeB l left left[q]=false):bestTo l left (q+1)=bestTo l left q:=by
 unfold bestTo
 rw [List.take_succ_eq_append_getElem hq,List.filter_append]
 rw [show List.filter (fun x=>freeB l left x) [left[q]]=[] by simp [h]]
 simp
theorem bestTo_yes (l:List (Sp α)) (left:List Int) (q:Nat) (hq:q < left.length) (h:freeB l left left[q]=true):bestTo l left (q+1)=match bestTo l left q with
 | none=>some left[q]
 | some y=>some (if left[q] < y then left[q] else y):=by
 unfold bestTo
 rw [List.take_succ_eq_append_getElem hq,List.filter_append]
 rw [show List.filter (fun x=>freeB l left x) [left[q]]=[left[q]] by simp [h]]
 exact minI_snoc _ _
theorem bestTo_all (l:List (Sp α)) (left:List Int):bestTo l left left.length=bestL l left:=by unfold bestTo bestL;rw [List.take_length]
def ordI (nodes:List Int) (l:List (Sp α)) (left out:List Int):Prop:=∃ fuel,left.length≤fuel∧orderL nodes l=(orderF l fuel left).map (out++·)
theorem ordI_start (nodes:List Int) (l:List (Sp α)):ordI nodes l nodes []:=⟨nodes.length,Nat.le_refl _,by unfold orderL;cases orderF l nodes.length nodes<;>rfl⟩
theorem ordI_end (nodes:List Int) (l:List (Sp α)) (out:List Int) (h:ordI nodes l [] out):orderL nodes l=some out:=by
 obtain ⟨fuel,_,h⟩:=h
 rw [h]
 cases fuel<;>simp [orderF]
theorem ordI_none (nodes:List Int) (l:List (Sp α)) (left out:List Int) (h:ordI nodes l left out) (hne:left≠[]) (hb:bestL l left=none):orderL nodes l=none:=by
 obtain ⟨fuel,hf,h⟩:=h
 cases fuel with
 | zero=>exact absurd (List.length_eq_zero_iff.1 (by omega)) hne
 | succ fuel =>
   rw [h,orderF,if_neg hne,hb]
   rfl
theorem ordI_next (nodes:List Int) (l:List (Sp α)) (left out:List Int) (b:Int) (h:ordI nodes l left out) (hne:left≠[]) (hb:bestL l left=some b):ordI nodes l (left.filter fun x=>decide (x≠b)) (out++[b]):=by
 obtain ⟨fuel,hf,h⟩:=h
 cases fuel with
 | zero=>exact absurd (List.length_eq_zero_iff.1 (by omega)) hne
 | succ fuel =>
   have hlt:=filter_less left b ((best_some l left b).1 hb).1.1
   refine ⟨fuel,by omega,?_⟩
   rw [h,orderF,if_neg hne,hb]
   simp only
   cases orderF l fuel (left.filter fun x=>decide (x≠b)) with
   | none=>rfl
   | some o=>simp
end
end Go.Proofs.YtdlcimfifkhllaaGreat
namespace Go.Proofs.YtdlcimfifkhllaaGreat
set_option maxRecDepth 100000
open Go.RowKit
set_option linter.unusedVariables false
theorem sl_info:(Tryz.prog.info? 23).map (fun i=>(i.zero,i.size,i.bytes))=some (some (.slice none 0 0),1,24):=by kernel_rfl
theorem own_lit (w:World) (e k n:Nat) (xs:List Value) (hx:xs.length=n*k) (hs:n≤1000):(w.alloc (.cells xs.toArray e)).ownsRow w.heap.size e k (.slice (some ⟨w.heap.size,0,none⟩) n n) n xs :=
 ⟨hx,.inr ⟨w.heap.size,n,_,rfl,Nat.le_refl _,SBox.new w e _,Nat.le_refl _,by unfold maxLen;omega,by rw [List.size_toArray,hx],by rw [List.toList_toArray,List.take_of_length_le (by rw [hx];exact Nat.le_refl _)]⟩⟩
theorem apart_types {W:World} {B B' e e' k k' n n':Nat} {r v:Value} {xs ys:List Value} (hr:W.ownsRow B e k r n xs) (hv:W.ownsRow B' e' k' v n' ys) (hne:e≠e'):Apart11 r v:=by
 intro g h1 h2
 rcases hr.2 with ⟨rfl,_⟩ | ⟨g1,c1,u1,rfl,_,b1,_⟩
 ·simp [Value.ownBlock] at h2
 ·rcases hv.2 with ⟨rfl,_⟩ | ⟨g2,c2,u2,rfl,_,b2,_⟩
  ·simp [Value.ownBlock] at h1
  ·obtain rfl:g1=g:=by simpa [Value.ownBlock] using h2
   obtain rfl:g2=g1:=by simpa [Value.ownBlock] using h1
   rw [b1] at b2
   simp at b2
   exact hne b2.2
def WaysOk (w W:World) (l:List Stp) (to:Int) (Vs:List Value):Prop:=∀ (n:Nat) u,Vs[n]?=some u→∃ N:List Int,W.ownsRow w.heap.size 3 1 u N.length (recV intV N)∧N.length≤l.length+1∧∀ x,x∈N↔wayB l to n x=true
theorem WaysOk.below {w W W':World} {l:List Stp} {to:Int} {Vs:List Value} (h:WaysOk w W l to Vs) (hb:Below W.heap.size W W'):WaysOk w W' l to Vs:=fun n u hu=>by
 obtain ⟨N,h1,h2⟩:=h n u hu
 exact ⟨N,owns_below h1 hb,h2⟩
theorem WaysOk.grown {w W W':World} {l:List Stp} {to:Int} {Vs:List Value} {B k n:Nat} {r:Value} {xs:List Value} (h:WaysOk w W l to Vs) (hr:W.ownsRow B 23 k r n xs) (hne:23≠3) (hg:W.grownBy W' r.ownBlock):WaysOk w W' l to Vs:=fun j u hu=>by
 obtain ⟨N,h1,h2⟩:=h j u hu
 exact ⟨N,apart11_kept h1 hg (apart_types hr h1 hne),h2⟩
theorem WaysOk.push {w W:World} {l:List Stp} {to:Int} {Vs:List Value} (h:WaysOk w W l to Vs) (u:Value) (N:List Int) (h1:W.ownsRow w.heap.size 3 1 u N.length (recV intV N)) (h2:N.length≤l.length+1) (h3:∀ x,x∈N↔wayB l to Vs.length x=true):WaysOk w W l to (Vs++[u]):=fun n u' hu=>by
 rcases Nat.lt_or_ge n Vs.length with hn | hn
 ·rw [List.getElem?_append_left hn] at hu
  exact h n u' hu
 ·rw [List.getElem?_append_right hn] at hu
  rcases Nat.eq_zero_or_pos (n - Vs.length) with h0 | h0
  ·rw [h0] at hu
   simp only [List.getElem?_cons_zero,Option.some.injEq] at hu
   subst hu
   obtain rfl:n=Vs.length:=by omega
   exact ⟨N,h1,h2,h3⟩
  ·rw [List.getElem?_eq_none (by simp;omega)] at hu
   cases hu
def nextP (l:List Stp) (to:Int) (n z:Nat) (x:Int):Prop:=∃ j,∃ h:j < l.length,j < z∧l[j].1=x∧wayB l to n l[j].2.1=true
theorem nextP_all (l:List Stp) (to:Int) (n:Nat) (x:Int):nextP l to n l.length x↔wayB l to (n+1) x=true:=by
 rw [wayB,List.any_eq_true]
 constructor
 ·rintro ⟨j,hj,_,h1,h2⟩
  exact ⟨l[j],List.getElem_mem hj,by simp [h1,h2]⟩
 ·rintro ⟨s,hs,h⟩
  obtain ⟨j,hj,rfl⟩:=List.getElem_of_mem hs
  rw [Bool.and_eq_true,decide_eq_true_eq] at h
  exact ⟨j,hj,hj,h.1,h.2⟩
theorem nextP_no (l:List Stp) (to:Int) (n z:Nat) (x:Int) (hz:z < l.length) (h:wayB l to n l[z].2.1=false):nextP l to n (z+1) x↔nextP l to n z x:=by
 constructor
 ·rintro ⟨j,hj,h0,h1,h2⟩
  rcases Nat.lt_or_ge j z with h' | h'
  ·exact ⟨j,hj,h',h1,h2⟩
  ·obtain rfl:j=z:=by omega
   rw [h] at h2;cases h2
 ·rintro ⟨j,hj,h0,h1,h2⟩
  exact ⟨j,hj,by omega,h1,h2⟩
theorem nextP_yes (l:List Stp) (to:Int) (n z:Nat) (x:Int) (hz:z < l.length) (h:wayB l to n l[z].2.1=true):nextP l to n (z+1) x↔x=l[z].1∨nextP l to n z x:=by
 constructor
 ·rintro ⟨j,hj,h0,h1,h2⟩
  rcases Nat.lt_or_ge j z with h' | h'
  ·exact .inr ⟨j,hj,h',h1,h2⟩
  ·obtain rfl:j=z:=by omega
   exact .inl h1.symm
 ·rintro (rfl | ⟨j,hj,h0,h1,h2⟩)
  ·exact ⟨z,hz,by omega,rfl,h⟩
  ·exact ⟨j,hj,by omega,h1,h2⟩
def WaysRes (w:World) (l:List Stp) (to:Int) (many:Nat) (e:Ending) (w':World):Prop:=∃ v Vs,e=.returned v∧Below w.heap.size w w'∧Vs.length=many+1∧w'.ownsRow w.heap.size 23 1 v (many+1) Vs∧WaysOk w w' l to Vs
end Go.Proofs.YtdlcimfifkhllaaGreat
namespace Go.Proofs.YtdlcimfifkhllaaGreat
set_option maxRecDepth 100000
open Go.RowKit
set_option linter.unusedVariables false
section
variable {α:Type}
theorem ringAt_none (l:List (Sp α)) (n:Nat) (h:∀ j (hj:j < (startsL l).length),wayB l (startsL l)[j] n (startsL l)[j]=false):ringAt l n=none:=by
 unfold ringAt
 rw [List.find?_eq_none]
 intro s hs
 obtain ⟨j,hj,rfl⟩:=List.getElem_of_mem hs
 rw [h j hj];decide
theorem ringAt_some (l:List (Sp α)) (n k:Nat) (hk:k < (startsL l).length) (h:∀ j (hj:j < (startsL l).length),j < k→wayB l (startsL l)[j] n (startsL l)[j]=false) (hy:wayB l (startsL l)[k] n (startsL l)[k]=true):ringAt l n=some (startsL l)[k]:=by
 unfold ringAt
 rw [List.find?_eq_some_iff_getElem]
 refine ⟨hy,k,hk,rfl,fun j hj=>?_⟩
 rw [h j (by omega) hj];rfl
theorem ringL_none (l:List (Sp α)) (h:∀ j,1≤j→j≤(startsL l).length→ringAt l j=none):ringL l=none:=by
 have:ringN l=none:=by
  unfold ringN
  rw [fi_none]
  intro i hi
  rw [h (i+1) (by omega) (by omega)];rfl
 unfold ringL
 rw [this]
theorem ringL_some (l:List (Sp α)) (n:Nat) (s:Int) (hn:n < (startsL l).length) (h:∀ j,1≤j→j < n+1→ringAt l j=none) (hs:ringAt l (n+1)=some s):ringL l=some (ringPath l s (n+1) s):=by
 have:ringN l=some n:=by
  unfold ringN
  rw [fi_some]
  refine ⟨hn,by rw [hs];rfl,fun j hj=>?_⟩
  rw [h (j+1) (by omega) (by omega)];rfl
 unfold ringL
 rw [this]
 simp only
 rw [hs]
theorem path_next (l:List (Sp α)) (to:Int) (q:Nat) (a:Int) (i:Nat) (hi:i < l.length) (h1:l[i].1=a) (h2:wayB l to q l[i].2.1=true) (h3:∀ j (hj:j < l.length),j < i→¬ (l[j].1=a∧wayB l to q l[j].2.1=true)):ringPath l to (q+1) a=l[i]::ringPath l to q l[i].2.1:=by
 rw [ringPath]
 have:(l.find? fun s=>decide (s.1=a)&&wayB l to q s.2.1)=some l[i]:=by
  rw [List.find?_eq_some_iff_getElem]
  refine ⟨by simp [h1,h2],i,hi,rfl,fun j hj=>?_⟩
  have:=h3 j (by omega) hj
  by_cases e:l[j].1=a
  ·cases hw:wayB l to q l[j].2.1 with
   | true=>exact absurd ⟨e,hw⟩ this
   | false=>simp
  ·simp [e]
 rw [this]
theorem way_has (l:List (Sp α)) (to:Int) (q:Nat) (a:Int) (h:wayB l to (q+1) a=true):∃ i,∃ hi:i < l.length,l[i].1=a∧wayB l to q l[i].2.1=true:=by
 rw [wayB,List.any_eq_true] at h
 obtain ⟨s,hs,h⟩:=h
 obtain ⟨i,hi,rfl⟩:=List.getElem_of_mem hs
 rw [Bool.and_eq_true,decide_eq_true_eq] at h
 exact ⟨i,hi,h.1,h.2⟩
end
def PathS (l:List Stp) (s a:Int) (q:Nat) (P:List Stp) (k:Nat) (b:Bool) (i:Nat) (a':Int) (Q:List Stp) (kk:Nat):Prop :=
 (b=false∧a'=a∧Q=P∧kk=k∧∀ j (hj:j < l.length),j < i→¬ (l[j].1=a∧wayB l s q l[j].2.1=true))∨(b=true∧kk=k+1∧wayB l s q a'=true∧P++ringPath l s (q+1) a=Q++ringPath l s q a')
def RingRes (t:TypeId) (w:World) (r:Option (List Stp)) (e:Ending) (w':World):Prop:=∃ v L',e=.returned (.tuple #[v,.bool r.isSome])∧Below w.heap.size w w'∧w'.ownsRow w.heap.size t 3 v L'.length (recV stV L')∧StOf w' L' (r.getD [])
theorem StOf.nil (W:World):StOf W [] []:=⟨rfl,fun i x s h=>by simp at h⟩
theorem StOf.push {W:World} {L':List SVt} {L:List Stp} (h:StOf W L' L) (a b:Int) (u:Value) (E:List Ed) (hE:IsEds W u E):StOf W (L'++[(a,b,u)]) (L++[(a,b,E)]):=by
 refine ⟨by simp [h.1],fun i x s hx hs=>?_⟩
 rcases Nat.lt_or_ge i L'.length with hi | hi
 ·rw [List.getElem?_append_left hi] at hx
  rw [List.getElem?_append_left (by rw [← h.1];exact hi)] at hs
  exact h.2 i x s hx hs
 ·rw [List.getElem?_append_right hi] at hx
  rw [List.getElem?_append_right (by rw [← h.1];exact hi)] at hs
  rw [h.1] at hx
  rcases Nat.eq_zero_or_pos (i - L.length) with h0 | h0
  ·rw [h0] at hx hs
   simp only [List.getElem?_cons_zero,Option.some.injEq] at hx hs
   subst hx hs
   exact ⟨rfl,rfl,hE⟩
  ·rw [List.getElem?_eq_none (by simp;omega)] at hx
   cases hx
end Go.Proofs.YtdlcimfifkhllaaGreat
namespace Go.Proofs.YtdlcimfifkhllaaGreat
set_option maxRecDepth 100000
set_option linter.unusedVariables false
theorem ringL_few (l r:List Stp) (h:ringL l=some r):r.length≤l.length∨l=[]:=by
 by_cases h0:l=[]
 ·exact .inr h0
 ·left
  unfold ringL at h
  cases hn:ringN l with
  | none=>rw [hn] at h;cases h
  | some n =>
    rw [hn] at h
    simp only at h
    cases hs:ringAt l (n+1) with
    | none=>rw [hs] at h;cases h
    | some s =>
      rw [hs] at h
      simp only [Option.some.injEq] at h
      have hlt:=((fi_some _ _ _).1 hn).1
      have hp:=(path_ok l s (n+1) s (ring_at l (n+1) s hs).2.1).2.1
      rw [← h,hp]
      have hst:(startsL l).length≤l.length:=by
       have g:∀ (m:List Stp) (acc:List Int),(startsF acc m).length≤acc.length+m.length:=by
        intro m
        induction m with
        | nil=>intro acc;rw [startsF];simp
        | cons x m ih =>
          intro acc
          rw [startsF,List.length_cons]
          have:=ih (insI x.1 acc)
          have h2:∀ K:List Int,(insI x.1 K).length≤K.length+1:=by
           intro K
           induction K with
           | nil=>simp [insI]
           | cons y K ihK =>
             rw [insI]
             split
             ·simp;omega
             ·split<;>simp
          have:=h2 acc
          omega
       have:=g l []
       simpa [startsL] using this
      omega
theorem orderF_few (l:List Stp):∀ (n:Nat) (left o:List Int),orderF l n left=some o→o.length≤n
 | 0,left,o,h=>by
   rw [orderF] at h
   split at h
   ·cases h;simp
   ·cases h
 | n+1,left,o,h=>by
   rw [orderF] at h
   split at h
   ·cases h;simp
   ·cases hb:bestL l left with
    | none=>rw [hb] at h;cases h
    | some b =>
      rw [hb] at h
      simp only at h
      cases hr:orderF l n (left.filter fun x=>decide (x≠b)) with
      | none=>rw [hr] at h;cases h
      | some o' =>
        rw [hr] at h
        simp only [Option.some.injEq] at h
        have:=orderF_few l n _ o' hr
        rw [← h]
        simp
        omega
open Go.RowKit
attribute [local go_sem] ba_size
theorem stepOf_len12 (level:Int) (l:List Ed) (e:Ed):(stepOf level l e).length≤l.length+1:=by
 unfold stepOf
 rw [List.length_append]
 have h1:(if level=1∨level=2∧e.1≠3 then [one1 e] else []).length≤1:=by split<;>simp
 have h2:(if level=2∧e.1≠3 then l.filterMap fun g=>if g.1=3∧g.2.1=e.2.2.1 then some (two2 e g) else none else []).length≤l.length:=by
  split
  ·exact List.length_filterMap_le _ _
  ·simp
 omega
theorem steps_len12 (level:Int) (l:List Ed):(stepsL level l).length≤l.length*(l.length+1):=by
 unfold stepsL
 rw [List.length_flatMap]
 have h:=sum_le (fun e=>(stepOf level l e).length) (fun _=>l.length+1) l (fun e _=>stepOf_len12 level l e)
 rw [List.map_const',List.sum_replicate_nat] at h
 exact h
theorem flat_len (level:Int) (l:List Ed) (r:List Stp) (h:∀ s∈r,s∈stepsL level l):(flatL r).length≤r.length*2:=by
 unfold flatL
 rw [List.length_flatMap]
 have h:=sum_le (fun s:Stp=>s.2.2.length) (fun _=>2) r (fun s hs=>by
  rcases steps_cases level l s (h s hs) with ⟨e,_,_,rfl⟩ | ⟨_,e,_,g,_,hh⟩
  ·simp [one1]
  ·obtain ⟨_,_,_,rfl⟩:=hh
   simp [two2])
 rw [List.map_const',List.sum_replicate_nat] at h
 exact h
theorem wf_bounds {h:List Ev} (hw:WF h) (level:Int):(edgesL h).length≤512∧(stepsL level (edgesL h)).length≤262656∧(nodeL h).length≤301∧(flatL ((ringL (stepsL level (edgesL h))).getD [])).length≤525312:=by
 have h0:=hw.1
 have h1:=edges_few h
 have e1:(edgesL h).length≤512:=by omega
 have h2:=steps_len12 level (edgesL h)
 have e2:(stepsL level (edgesL h)).length≤262656:=Nat.le_trans h2 (Nat.le_trans (Nat.mul_le_mul e1 (Nat.succ_le_succ e1)) (by decide))
 refine ⟨e1,e2,nd_len h 301,?_⟩
 cases hr:ringL (stepsL level (edgesL h)) with
 | none=>simp [flatL]
 | some r =>
   simp only [Option.getD_some]
   have h3:=flat_len level (edgesL h) r (ring_some _ r hr).2.1
   rcases ringL_few _ r hr with h4 | h4
   ·omega
   ·rw [h4] at hr;cases hr
theorem wf_keys {h:List Ev} (hw:WF h):∀ x∈h,x.2.2.1.length≤1125899906842624:=by
 intro x hx
 obtain ⟨i,hi,rfl⟩:=List.getElem_of_mem hx
 have hm:=wf_may hw hi
 rw [ev_get h i hi] at hm
 unfold mayE at hm
 obtain ⟨_,hm⟩:=hm
 split at hm
 ·omega
 ·have:=hm.1
  rw [this]
  simp
theorem own_shape12 {W:World} {B e k n:Nat} {v:Value} {xs:List Value} (h:W.ownsRow B e k v n xs):∃ ad c,v=.slice ad n c:=by
 rcases h.2 with ⟨rfl,rfl⟩ | ⟨g,cap,cur,rfl,_⟩
 ·exact ⟨none,0,rfl⟩
 ·exact ⟨_,_,rfl⟩
theorem own_some12 {W:World} {B e k n:Nat} {v:Value} {xs:List Value} (h:W.ownsRow B e k v n xs) (h0:0 < n):∃ g cc,v=.slice (some ⟨g,0,none⟩) n cc∧n≤cc∧cc≤maxLen:=by
 rcases h.2 with ⟨_,h0'⟩ | ⟨g,cap,cur,rfl,_,_,h1,h2,_⟩
 ·omega
 ·exact ⟨g,cap,rfl,h1,h2⟩
theorem owns_base12 {W:World} {B C e k n:Nat} {v:Value} {xs:List Value} (h:W.ownsRow B e k v n xs) (hC:C≤B):W.ownsRow C e k v n xs:=by
 refine ⟨h.1,?_⟩
 rcases h.2 with hh | ⟨g,cap,cur,hv,hb,hg,rest⟩
 ·exact .inl hh
 ·exact .inr ⟨g,cap,cur,hv,Nat.le_trans hC hb,hg,rest⟩
theorem edge_kind (h:List Ev) (e:Ed) (he:e∈edgesL h):e.1=1∨e.1=2∨e.1=3:=by
 obtain ⟨key,⟨n,hn,rfl⟩ | ⟨i,hc,hl,hkey,⟨n,hv,ht,rfl⟩ | ⟨n,_,hn,ht,rfl⟩⟩⟩:=edge_cases h e he
 ·exact .inl rfl
 ·exact .inr (.inl rfl)
 ·exact .inr (.inr rfl)
theorem edge_good (h:List Ev) (hl:h.length≤256) (Gh:∀ x∈h,goodE x) (e:Ed) (he:e∈edgesL h):goodEd e:=by
 obtain ⟨_,_,i,j,_,_,_,e1,e2,hi,hj,_,t1,t2⟩:=edges_apart h e he
 have k:=edge_kind h e he
 have g1:=(Gh _ (List.getElem_mem hi)).2.1
 have g2:=(Gh _ (List.getElem_mem hj)).2.1
 rw [← ev_get h i hi] at g1
 rw [← ev_get h j hj] at g2
 unfold tx at t1 t2
 rw [t1] at g1
 rw [t2] at g2
 unfold goodEd okN
 rw [e1,e2]
 omega
theorem ne_empty' (l:List UInt8) (h:l≠[]):l.isEmpty=false:=by cases l with
 | nil=>exact absurd rfl h
 | cons _ _=>rfl
set_option maxHeartbeats 1000000 in
theorem rmay_any (k t:Int) (a b:List UInt8) (w:World) :
 Calls Tryz.prog 40 #[.agg #[.int .i64 k,.int .i64 t,.string ⟨a.toArray⟩,.string ⟨b.toArray⟩]] w fun e w'=>e=.returned (.bool (decide (mayE (k,t,a,b))))∧Below w.heap.size w w':=by
 have al:∀ o,Below w.heap.size w (w.alloc o):=fun o=>(Below.refl _ w).alloc (Nat.le_refl _) o
 by_cases c0:k < 1
 ·rw [decide_eq_false (show ¬ mayE _ from fun h=>by have h:=mayE_range h;omega)]
  go_enter Tryz.func40,Tryz.ntmps40
  go_wp2_with fail
  go_ret
  exact ⟨rfl,al _⟩
 ·have c0':¬ k < 1:=c0
  by_cases c1:5 < k
  ·rw [decide_eq_false (show ¬ mayE _ from fun h=>by have h:=mayE_range h;omega)]
   go_enter Tryz.func40,Tryz.ntmps40
   go_wp2_with fail
   go_ret
   exact ⟨rfl,al _⟩
  ·have c1':¬ 5 < k:=c1
   by_cases c2:t < 1
   ·rw [decide_eq_false (show ¬ mayE _ from fun h=>by have h:=mayE_range h;omega)]
    go_enter Tryz.func40,Tryz.ntmps40
    go_wp2_with fail
    go_ret
    exact ⟨rfl,al _⟩
   ·have c2':¬ t < 1:=c2
    by_cases c3:32 < t
    ·rw [decide_eq_false (show ¬ mayE _ from fun h=>by have h:=mayE_range h;omega)]
     go_enter Tryz.func40,Tryz.ntmps40
     go_wp2_with fail
     go_ret
     exact ⟨rfl,al _⟩
    ·have c3':¬ 32 < t:=c3
     by_cases u1:k=2∨k=3
     ·have q1:k=2∨k=3:=u1
      by_cases d1:a.length < 1
      ·have j1:(a.length:Int) < 1:=by omega
       rw [decide_eq_false (show ¬ mayE _ from fun h=>by have h:=(mayE_key u1).1 h;omega)]
       rcases u1 with rfl | rfl
       all_goals
        go_enter Tryz.func40,Tryz.ntmps40
        go_wp2_with fail
        go_ret
        exact ⟨rfl,al _⟩
      ·have j1:¬ (a.length:Int) < 1:=by omega
       by_cases d2:32 < a.length
       ·have j2:(32:Int) < (a.length:Int):=by omega
        rw [decide_eq_false (show ¬ mayE _ from fun h=>by have h:=(mayE_key u1).1 h;omega)]
        rcases u1 with rfl | rfl
        all_goals
         go_enter Tryz.func40,Tryz.ntmps40
         go_wp2_with fail
         go_ret
         exact ⟨rfl,al _⟩
       ·have j2:¬ (32:Int) < (a.length:Int):=by omega
        by_cases d3:32 < b.length
        ·have j3:(32:Int) < (b.length:Int):=by omega
         rw [decide_eq_false (show ¬ mayE _ from fun h=>by have h:=(mayE_key u1).1 h;omega)]
         rcases u1 with rfl | rfl
         all_goals
          go_enter Tryz.func40,Tryz.ntmps40
          go_wp2_with fail
          go_ret
          exact ⟨rfl,al _⟩
        ·have j3:¬ (32:Int) < (b.length:Int):=by omega
         rcases u1 with rfl | rfl
         ·rw [decide_eq_true (show mayE _ from by rw [mayE_key q1];omega)]
          go_enter Tryz.func40,Tryz.ntmps40
          go_wp2_with fail
          go_ret
          exact ⟨rfl,al _⟩
         ·by_cases d4:0 < b.length
          ·have j4:(0:Int) < (b.length:Int):=by omega
           rw [decide_eq_true (show mayE _ from by rw [mayE_key q1];omega)]
           go_enter Tryz.func40,Tryz.ntmps40
           go_wp2_with fail
           go_ret
           exact ⟨rfl,al _⟩
          ·have j4:¬ (0:Int) < (b.length:Int):=by omega
           rw [decide_eq_false (show ¬ mayE _ from fun h=>by have h:=(mayE_key q1).1 h;omega)]
           go_enter Tryz.func40,Tryz.ntmps40
           go_wp2_with fail
           go_ret
           exact ⟨rfl,al _⟩
     ·have q1:(k != 2)=true:=by rw [bne_iff_ne];omega
      have q2:(k != 3)=true:=by rw [bne_iff_ne];omega
      by_cases d1:a=[]
      ·by_cases d2:b=[]
       ·rw [decide_eq_true (show mayE _ from by rw [mayE_unkey u1];exact ⟨by omega,d1,d2⟩)]
        subst d1 d2
        go_enter Tryz.func40,Tryz.ntmps40
        go_wp2_with fail
        go_ret
        exact ⟨rfl,al _⟩
       ·rw [decide_eq_false (show ¬ mayE _ from fun h=>by exact d2 ((mayE_unkey u1).1 h).2.2)]
        have n2:=ne_empty' b d2
        subst d1
        go_enter Tryz.func40,Tryz.ntmps40
        go_wp2_with fail
        go_ret
        exact ⟨rfl,al _⟩
      ·rw [decide_eq_false (show ¬ mayE _ from fun h=>by exact d1 ((mayE_unkey u1).1 h).2.1)]
       have n1:=ne_empty' a d1
       go_enter Tryz.func40,Tryz.ntmps40
       go_wp2_with fail
       go_ret
       exact ⟨rfl,al _⟩
theorem bads_len (h:List Ev):(badsL h).length≤h.length:=by
 unfold badsL
 have:=List.length_filterMap_le (fun i=>if (atL h i).1=0 then none else some (atL h i)) (List.range h.length)
 rw [List.length_range] at this
 exact this
end Go.Proofs.YtdlcimfifkhllaaGreat
