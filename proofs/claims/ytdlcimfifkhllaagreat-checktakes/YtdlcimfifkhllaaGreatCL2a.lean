/-
  What taint.counts and ownWrite answer. What edges.isPlace and wasAhead answer. What history.fault answers.
-/
import Derived.Test.YtdlcimfifkhllaaGreatCP8Find
import Derived.Test.YtdlcimfifkhllaaGreatCL1a
namespace Go.Proofs.YtdlcimfifkhllaaGreat
set_option maxRecDepth 100000
open Go.RowKit
set_option linter.unusedVariables false
attribute [local go_sem] ba_size
set_option maxHeartbeats 2000000 in
theorem pcounts_any (h:List Ev) (v:Value) (w:World) (hT:IsEvs w v h) (i:Int) :
 Calls Tryz.prog 84 #[v,.int .i64 i] w fun e w'=>e=.returned (.bool (countI h i))∧Below w.heap.size w w':=by
 have C1:=fun (t:Int) W hW=>pfind8_any h v W t (hT.below (w':=W) hW)
 obtain ⟨a,cap,rfl,h1,h2,h3,HC⟩:=hT.reads
 obtain ⟨n,hn⟩:∃ n,h.length=n:=⟨_,rfl⟩
 have HN:Hid (h.length=n):=hn
 simp only [hn] at C1
 rw [hn] at h1 h3 ⊢
 clear hT hn
 by_cases i0:i < 0
 ·rw [show countI h i=false by unfold countI;rw [decide_eq_false (by omega)];rfl]
  go_enter Tryz.func84,Tryz.ntmps84
  go_wp2_with fail
  go_ret
  exact ⟨rfl,Below.refl _ _⟩
 ·obtain ⟨q,rfl⟩:∃ q:Nat,i=(q:Int):=⟨i.toNat,by omega⟩
  have HQQ:Hid (countI h (q:Int)=countsB h q):=by show _=_;unfold countI;rw [decide_eq_true (by omega)];simp
  by_cases i1:q < n
  ·have hq1:q < h.length:=by have:=HN.out;omega
   have j1:¬ (n:Int)≤(q:Int):=by omega
   have j11:¬ n≤q:=by omega
   obtain ⟨bb,off,rfl,HQ⟩:=HC.out (by omega)
   obtain ⟨c0,c1,_,_⟩:=HQ.out q hq1 _ (Below.refl _ _)
   obtain ⟨⟨x0,x1,x2,x3⟩,hx⟩:∃ x,ev h q=x:=⟨_,rfl⟩
   have HX:Hid (ev h q=(x0,x1,x2,x3)):=hx
   rw [hx] at c0 c1
   simp only at c0 c1
   by_cases d:x0=2
   ·have e2:(x0 != 2)=false:=by rw [d];rfl
    have D:=C1 x1
    have HF:=cnt_find h q hq1 (by rw [hx];exact d)
    rw [hx] at HF
    simp only at HF
    obtain ⟨⟨⟨f0,f1,f2,f3⟩,f4⟩,hf⟩:∃ y,findP h x1=y:=⟨_,rfl⟩
    rw [hf] at HF D
    simp only at HF D
    rw [HQQ.out,HF]
    clear hx HF hf d hq1
    cases f3 with
    | false =>
      rw [Bool.false_and]
      go_enter Tryz.func84,Tryz.ntmps84
      go_wp2_with fail
      refine (D _ (Below.refl _ _)).mono ?_
      rintro e' w1 ⟨rfl,b1⟩
      have X1:=SBox.new w1 91 #[.int .i64 f0,.int .i64 (f1:Int),.int .i64 (f2:Int),.bool false]
      have y2:=X1.cell 2 _ rfl
      have y3:=X1.cell 3 _ rfl
      go_wp2_with fail
      go_ret
      exact ⟨rfl,b1.alloc b1.size _⟩
    | true =>
      rw [Bool.true_and]
      by_cases l1:q < f2
      ·have l2:(q:Int) < (f2:Int):=by omega
       rw [decide_eq_true l1]
       go_enter Tryz.func84,Tryz.ntmps84
       go_wp2_with fail
       refine (D _ (Below.refl _ _)).mono ?_
       rintro e' w1 ⟨rfl,b1⟩
       have X1:=SBox.new w1 91 #[.int .i64 f0,.int .i64 (f1:Int),.int .i64 (f2:Int),.bool true]
       have y2:=X1.cell 2 _ rfl
       have y3:=X1.cell 3 _ rfl
       go_wp2_with fail
       go_ret
       exact ⟨rfl,b1.alloc b1.size _⟩
      ·have l2:¬ (q:Int) < (f2:Int):=by omega
       rw [decide_eq_false l1]
       go_enter Tryz.func84,Tryz.ntmps84
       go_wp2_with fail
       refine (D _ (Below.refl _ _)).mono ?_
       rintro e' w1 ⟨rfl,b1⟩
       have X1:=SBox.new w1 91 #[.int .i64 f0,.int .i64 (f1:Int),.int .i64 (f2:Int),.bool true]
       have y2:=X1.cell 2 _ rfl
       have y3:=X1.cell 3 _ rfl
       go_wp2_with fail
       go_ret
       exact ⟨rfl,b1.alloc b1.size _⟩
   ·have e2:(x0 != 2)=true:=bne_iff_ne.2 d
    rw [HQQ.out,count_kind h q (by rw [HX.out];exact d)]
    clear hx
    go_enter Tryz.func84,Tryz.ntmps84
    go_wp2_with fail
    go_ret
    exact ⟨rfl,Below.refl _ _⟩
  ·have j1:(n:Int)≤(q:Int):=by omega
   have j11:n≤q:=by omega
   rw [HQQ.out,count_out h q (by have:=HN.out;omega)]
   go_enter Tryz.func84,Tryz.ntmps84
   go_wp2_with fail
   go_ret
   exact ⟨rfl,Below.refl _ _⟩
set_option maxHeartbeats 2000000 in
theorem pown_any (h:List Ev) (v:Value) (w:World) (hT:IsEvs w v h) (q:Nat) (hq:q < h.length) :
 Calls Tryz.prog 85 #[v,.int .i64 (q:Int)] w fun e w'=>e=.returned (.int .i64 (oI (lastN h (ev h q).2.1 (ev h q).2.2.1 q)))∧Below w.heap.size w w':=by
 have C1:=fun (t:Int) (k:List UInt8) W hW=>plast8_any h v W t k (q:Int) (hT.below (w':=W) hW)
 simp only [last_upto h _ _ q (by omega)] at C1
 obtain ⟨a,cap,rfl,h1,h2,h3,HC⟩:=hT.reads
 obtain ⟨bb,off,rfl,HQ⟩:=HC.out (by omega)
 obtain ⟨c0,c1,c2,_⟩:=HQ.out q hq _ (Below.refl _ _)
 obtain ⟨⟨x0,x1,x2,x3⟩,hx⟩:∃ x,ev h q=x:=⟨_,rfl⟩
 rw [hx] at c0 c1 c2 ⊢
 simp only at c0 c1 c2 ⊢
 have D:=C1 x1 x2
 obtain ⟨m,hm⟩:∃ m,oI (lastN h x1 x2 q)=m:=⟨_,rfl⟩
 rw [hm] at D ⊢
 obtain ⟨n,hn⟩:∃ n,h.length=n:=⟨_,rfl⟩
 rw [hn] at D h1 h3 hq ⊢
 clear hn hm hx C1 hT HC HQ
 go_enter Tryz.func85,Tryz.ntmps85
 go_wp2_with fail
 have S0:(fun V=>Below (w).heap.size (w) V∧V.cell? ⟨bb,off+q*4+1,none⟩=some (.int .i64 x1)∧V.cell? ⟨bb,off+q*4+2,none⟩=some (.string ⟨x2.toArray⟩)) (w).drew:=⟨(Below.refl _ _).drew,c1,c2⟩
 have keepS:∀ V V':World,(fun V=>Below (w).heap.size (w) V∧V.cell? ⟨bb,off+q*4+1,none⟩=some (.int .i64 x1)∧V.cell? ⟨bb,off+q*4+2,none⟩=some (.string ⟨x2.toArray⟩)) V→Below V.heap.size V V'→(fun V=>Below (w).heap.size (w) V∧V.cell? ⟨bb,off+q*4+1,none⟩=some (.int .i64 x1)∧V.cell? ⟨bb,off+q*4+2,none⟩=some (.string ⟨x2.toArray⟩)) V':=fun V V' ⟨a,a0,a1⟩ d=>⟨bel_trans a d,cell_bel d a0,cell_bel d a1⟩
 go_wp2_with fail
 go_region_held3 (fun V=>Below (w).heap.size (w) V∧V.cell? ⟨bb,off+q*4+1,none⟩=some (.int .i64 x1)∧V.cell? ⟨bb,off+q*4+2,none⟩=some (.string ⟨x2.toArray⟩)) (first | exact S0 | exact keepS _ _ (by assumption) (by assumption)) (first | (go_at_call 107;refine (D _ (bel_trans (Below.refl _ _) (And.left (by assumption)))).mono ?_;rintro e' w' ⟨rfl,b8⟩))
 rename_i hHeld8
 have s8:=hHeld8.1
 clear S0 keepS hHeld8
 go_wp2_with fail
 go_ret
 exact ⟨rfl,s8⟩
open Go.RowKit Go.Maps
theorem pplace_any (a:Option Addr) (n cap:Nat) (i:Int) (w:World) :
 Calls Tryz.prog 69 #[.slice a n cap,.int .i64 i] w fun e w'=>e=.returned (.bool (decide (0≤i∧i < (n:Int))))∧w'=w:=by
 by_cases h0:0≤i
 ·have h0':¬ i < 0:=by omega
  by_cases h1:i < (n:Int)
  ·rw [decide_eq_true ⟨h0,h1⟩]
   go_enter Tryz.func69,Tryz.ntmps69
   go_wp2_with fail
   go_ret
   exact ⟨rfl,rfl⟩
  ·rw [decide_eq_false (fun hh=>h1 hh.2)]
   go_enter Tryz.func69,Tryz.ntmps69
   go_wp2_with fail
   go_ret
   exact ⟨rfl,rfl⟩
 ·have h0':i < 0:=by omega
  rw [decide_eq_false (fun hh=>h0 hh.1)]
  go_enter Tryz.func69,Tryz.ntmps69
  go_wp2_with fail
  go_ret
  exact ⟨rfl,rfl⟩
set_option maxHeartbeats 4000000 in
theorem pahead_any (h:List Ev) (v:Value) (w:World) (hT:IsEvs w v h) (x0 x1:Int) (x2 x3:List UInt8) (l0:Int) (l1 l2:Nat) (l3:Bool) :
 Calls Tryz.prog 71 #[v,.agg #[.int .i64 x0,.int .i64 x1,.string ⟨x2.toArray⟩,.string ⟨x3.toArray⟩],.agg #[.int .i64 l0,.int .i64 (l1:Int),.int .i64 (l2:Int),.bool l3]] w fun e w'=>e=.returned (.bool (aheadQ h x2 x3 l2))∧Below w.heap.size w w':=by
 have C1:=fun (t:Int) W hW=>pfind8_any h v W t (hT.below (w':=W) hW)
 have C3:=fun (a b:List UInt8) W hW=>pwriter8_any h v W (hT.below (w':=W) hW) a b
 obtain ⟨a,cap,rfl,h1,h2,h3,HC⟩:=hT.reads
 have X0:=(SBox.new w 49 #[.int .i64 x0,.int .i64 x1,.string ⟨x2.toArray⟩,.string ⟨x3.toArray⟩]).alloc (.cells #[.int .i64 l0,.int .i64 (l1:Int),.int .i64 (l2:Int),.bool l3] 91)
 have Y0:=SBox.new (w.alloc (.cells #[.int .i64 x0,.int .i64 x1,.string ⟨x2.toArray⟩,.string ⟨x3.toArray⟩] 49)) 91 #[.int .i64 l0,.int .i64 (l1:Int),.int .i64 (l2:Int),.bool l3]
 rw [World.size_alloc] at Y0
 have B0:Below w.heap.size w ((w.alloc (.cells #[.int .i64 x0,.int .i64 x1,.string ⟨x2.toArray⟩,.string ⟨x3.toArray⟩] 49)).alloc (.cells #[.int .i64 l0,.int .i64 (l1:Int),.int .i64 (l2:Int),.bool l3] 91)):=((Below.refl _ w).alloc (Nat.le_refl _) _).alloc (by simp) _
 have c2:=X0.cell 2 _ rfl
 have c3:=X0.cell 3 _ rfl
 obtain ⟨n,hn⟩:∃ n,h.length=n:=⟨_,rfl⟩
 have HN:Hid (h.length=n):=hn
 simp only [hn] at C1 C3
 rw [hn] at h1 h3 ⊢
 clear hT hn
 unfold aheadQ
 have D2:=C3 x2 x3
 by_cases hv:x3=[]
 ·subst hv
  rw [if_pos rfl]
  clear D2 C1 C3
  go_enter Tryz.func71,Tryz.ntmps71
  go_wp2_with fail
  go_ret
  exact ⟨rfl,B0⟩
 ·have nv:=ne_nil7 x3 hv
  have nv2:(x3==[])=false:=beq_eq_false_iff_ne.2 hv
  rw [if_neg hv]
  clear hv
  rcases hw:writerL h x2 x3 with _ | u
  ·rw [hw] at D2
   simp only [oI] at D2 ⊢
   clear hw C1 C3
   go_enter Tryz.func71,Tryz.ntmps71
   go_wp2_with fail
   refine (D2 _ B0).mono ?_
   rintro e1 w1 ⟨rfl,b1⟩
   have B1:=bel_trans B0 b1
   go_wp2_with fail
   go_ret
   exact ⟨rfl,B1⟩
  ·have hu:=((writerL_some _ _ _ _).1 hw).1
   have HU:Hid (u < h.length):=hu
   have hun:u < n:=by have:=HN.out;omega
   rw [hw] at D2
   simp only [oI] at D2 ⊢
   have ju:¬ (u:Int) < 0:=by omega
   obtain ⟨bb,off,rfl,HQ⟩:=HC.out (by have:=HU.out;omega)
   obtain ⟨⟨z0,z1,z2,z3⟩,hz⟩:∃ x,ev h u=x:=⟨_,rfl⟩
   have HZ:Hid (ev h u=(z0,z1,z2,z3)):=hz
   simp only [hz]
   have D1:=C1 z1
   obtain ⟨⟨⟨f0,f1,f2,f3⟩,f4⟩,hf⟩:∃ y,findP h z1=y:=⟨_,rfl⟩
   rw [hf] at D1 ⊢
   simp only at D1 ⊢
   clear hf hz hw hu C1 C3
   cases f3 with
   | false =>
     rw [Bool.false_and]
     go_enter Tryz.func71,Tryz.ntmps71
     go_wp2_with fail
     refine (D2 _ B0).mono ?_
     rintro e1 w1 ⟨rfl,b1⟩
     have B1:=bel_trans B0 b1
     have m1:=(HQ.out u HU.out _ B1).2.1
     rw [HZ.out] at m1
     simp only at m1
     go_wp2_with fail
     refine (D1 _ B1).mono ?_
     rintro e2 w2 ⟨rfl,b2⟩
     have X2:=SBox.new w2 91 #[.int .i64 f0,.int .i64 (f1:Int),.int .i64 (f2:Int),.bool false]
     have B2':=bel_trans B1 b2
     have B2:=B2'.alloc B2'.size (.cells #[.int .i64 f0,.int .i64 (f1:Int),.int .i64 (f2:Int),.bool false] 91)
     have q3:=X2.cell 3 _ rfl
     have q2:=X2.cell 2 _ rfl
     clear m1
     go_wp2_with fail
     go_ret
     exact ⟨rfl,B2⟩
   | true =>
     rw [Bool.true_and]
     have Y2:True:=trivial
     by_cases lt:f2 < l2
     ·have lt2:(f2:Int) < (l2:Int):=by omega
      rw [decide_eq_true lt]
      go_enter Tryz.func71,Tryz.ntmps71
      go_wp2_with fail
      refine (D2 _ B0).mono ?_
      rintro e1 w1 ⟨rfl,b1⟩
      have B1:=bel_trans B0 b1
      have m1:=(HQ.out u HU.out _ B1).2.1
      rw [HZ.out] at m1
      simp only at m1
      go_wp2_with fail
      refine (D1 _ B1).mono ?_
      rintro e2 w2 ⟨rfl,b2⟩
      have X2:=SBox.new w2 91 #[.int .i64 f0,.int .i64 (f1:Int),.int .i64 (f2:Int),.bool true]
      have B2':=bel_trans B1 b2
      have B2:=B2'.alloc B2'.size (.cells #[.int .i64 f0,.int .i64 (f1:Int),.int .i64 (f2:Int),.bool true] 91)
      have q3:=X2.cell 3 _ rfl
      have q2:=X2.cell 2 _ rfl
      clear m1
      have k2:=(((Y0.below b1).below b2).alloc (.cells #[.int .i64 f0,.int .i64 (f1:Int),.int .i64 (f2:Int),.bool true] 91)).cell 2 _ rfl
      go_wp2_with fail
      go_ret
      exact ⟨rfl,B2⟩
     ·have lt2:¬ (f2:Int) < (l2:Int):=by omega
      rw [decide_eq_false lt]
      go_enter Tryz.func71,Tryz.ntmps71
      go_wp2_with fail
      refine (D2 _ B0).mono ?_
      rintro e1 w1 ⟨rfl,b1⟩
      have B1:=bel_trans B0 b1
      have m1:=(HQ.out u HU.out _ B1).2.1
      rw [HZ.out] at m1
      simp only at m1
      go_wp2_with fail
      refine (D1 _ B1).mono ?_
      rintro e2 w2 ⟨rfl,b2⟩
      have X2:=SBox.new w2 91 #[.int .i64 f0,.int .i64 (f1:Int),.int .i64 (f2:Int),.bool true]
      have B2':=bel_trans B1 b2
      have B2:=B2'.alloc B2'.size (.cells #[.int .i64 f0,.int .i64 (f1:Int),.int .i64 (f2:Int),.bool true] 91)
      have q3:=X2.cell 3 _ rfl
      have q2:=X2.cell 2 _ rfl
      clear m1
      have k2:=(((Y0.below b1).below b2).alloc (.cells #[.int .i64 f0,.int .i64 (f1:Int),.int .i64 (f2:Int),.bool true] 91)).cell 2 _ rfl
      go_wp2_with fail
      go_ret
      exact ⟨rfl,B2⟩
end Go.Proofs.YtdlcimfifkhllaaGreat
namespace Go.Proofs.YtdlcimfifkhllaaGreat
set_option maxRecDepth 100000
open Go.RowKit Go.Shelf
set_option linter.unusedVariables false
attribute [local go_sem] ba_size
theorem ev_upto (h:List Ev) (i:Nat) (hi:i≤h.length):∀ j,j < i→ev (h.take i) j=ev h j:=fun j hj=>ev_take h i j hj hi
theorem find_take (h:List Ev) (t:Int) (i:Nat) (hi:i≤h.length):(findP (h.take i) t).2=(fstL h t i).isSome∧((fstL h t i).isSome=true→((findP (h.take i) t).1.2.2.1 < i↔endL h t i≠none)):=by
 have hl:(h.take i).length=i:=by rw [List.length_take];omega
 have e1:fstL (h.take i) t i=fstL h t i:=fi_congr fun j hj=>by unfold ofTxn;rw [ev_upto h i hi j hj]
 have e2:endL (h.take i) t i=endL h t i:=fi_congr fun j hj=>by unfold isEnd;rw [ev_upto h i hi j hj]
 unfold findP findL
 rw [hl,e1,e2]
 cases hf:fstL h t i with
 | none=>exact ⟨rfl,fun hh=>by cases hh⟩
 | some q =>
   cases he:endL h t i with
   | none=>exact ⟨rfl,fun _=>⟨fun hh=>by simp at hh,fun hh=>absurd rfl hh⟩⟩
   | some e=>exact ⟨rfl,fun _=>⟨fun _=>by simp,fun _=>((fi_some _ _ _).1 he).1⟩⟩
theorem written_take (h:List Ev) (v:List UInt8) (i:Nat) (hi:i≤h.length):fi (sameVal (h.take i) v) (h.take i).length=fi (sameVal h v) i:=by
 have hl:(h.take i).length=i:=by rw [List.length_take];omega
 rw [hl]
 exact fi_congr fun j hj=>by unfold sameVal;rw [ev_upto h i hi j hj]
section
variable {h:List Ev} {i:Nat} {y0 y1:Int} {y2 y3:List UInt8}
theorem fs_may (he:ev h i=(y0,y1,y2,y3)) (hm:¬ mayE (y0,y1,y2,y3)):formStep h i=1:=by unfold formStep;rw [he,if_pos hm]
theorem fs_there (he:ev h i=(y0,y1,y2,y3)) (hm:mayE (y0,y1,y2,y3)) (h1:y0=1) (hf:(fstL h y1 i).isSome=true):formStep h i=8:=by
 unfold formStep;rw [he,if_neg (fun hh=>hh hm),if_pos h1,if_neg (fun e=>by rw [show fstL h y1 i=none from e] at hf;cases hf)]
theorem fs_begin (he:ev h i=(y0,y1,y2,y3)) (hm:mayE (y0,y1,y2,y3)) (h1:y0=1) (hf:(fstL h y1 i).isSome=false):formStep h i=0:=by
 unfold formStep;rw [he,if_neg (fun hh=>hh hm),if_pos h1,if_pos (by cases hq:fstL h y1 i with
  | none=>rfl
  | some q=>rw [hq] at hf;cases hf)]
theorem fs_none (he:ev h i=(y0,y1,y2,y3)) (hm:mayE (y0,y1,y2,y3)) (h1:¬ y0=1) (hf:(fstL h y1 i).isSome=false):formStep h i=7:=by
 unfold formStep;rw [he,if_neg (fun hh=>hh hm),if_neg h1,if_pos (by cases hq:fstL h y1 i with
  | none=>rfl
  | some q=>rw [hq] at hf;cases hf)]
theorem fs_state (he:ev h i=(y0,y1,y2,y3)) (hm:mayE (y0,y1,y2,y3)) (h1:¬ y0=1) (hf:(fstL h y1 i).isSome=true) (hn:endL h y1 i≠none):formStep h i=9:=by
 unfold formStep;rw [he,if_neg (fun hh=>hh hm),if_neg h1,if_neg (fun e=>by rw [show fstL h y1 i=none from e] at hf;cases hf),if_pos hn]
theorem fs_rest (he:ev h i=(y0,y1,y2,y3)) (hm:mayE (y0,y1,y2,y3)) (h1:¬ y0=1) (hf:(fstL h y1 i).isSome=true) (hn:¬ endL h y1 i≠none):formStep h i=if y0=3∧fi (sameVal h y3) i≠none then 8 else if y0=2∧y3≠[]∧writerL h y2 y3=none then 7 else 0:=by
 unfold formStep;rw [he,if_neg (fun hh=>hh hm),if_neg h1,if_neg (fun e=>by rw [show fstL h y1 i=none from e] at hf;cases hf),if_neg hn]
end
set_option maxHeartbeats 8000000 in
theorem pfault8_any (h:List Ev) (v:Value) (w:World) (hT:IsEvs w v h) (i:Nat) (hi:i < h.length) (hn:h.length≤256) :
 Calls Tryz.prog 49 #[v,.int .i64 (i:Int)] w fun e w'=>e=.returned (.int .i64 (formStep h i:Int))∧Below w.heap.size w w':=by
 have hT0:=hT
 obtain ⟨a,cap,rfl,h1,h2,h3,HC⟩:=hT.some_at
 obtain ⟨bb,off,rfl,hblt,hcell⟩:=HC.out i hi
 obtain ⟨p0,p1,p2,p3⟩:=IsEvs.at hi hcell
 have HX:Hid (ev h i=h[i]):=ev_get h i hi
 obtain ⟨⟨y0,y1,y2,y3⟩,hx⟩:∃ x,h[i]=x:=⟨_,rfl⟩
 rw [hx] at p0 p1 p2 p3 HX
 simp only at p0 p1 p2 p3
 have HA:Hid (IsEvs w (.slice (some ⟨bb,off,none⟩) i cap) (h.take i)):=hT0.take i (by omega)
 have HH:Hid (IsEvs w (.slice (some ⟨bb,off,none⟩) h.length cap) h):=hT0
 clear HC hT hT0 hcell hx
 have CF:=fun V hV=>pfind8_any (h.take i) (.slice (some ⟨bb,off,none⟩) i cap) V y1 (HA.out.below (w':=V) hV)
 have CW:=fun V hV=>pwritten8_any (h.take i) (.slice (some ⟨bb,off,none⟩) i cap) V (HA.out.below (w':=V) hV) y3
 have CR:=fun V hV=>pwriter8_any h (.slice (some ⟨bb,off,none⟩) h.length cap) V (HH.out.below (w':=V) hV) y2 y3
 have CM:=fun V=>pmay_any y0 y1 y2 y3 V
 rw [written_take h y3 i (by omega)] at CW
 have HFT:=Lib.hid (find_take h y1 i (by omega))
 obtain ⟨⟨⟨f0,f1,f2,f3⟩,th⟩,hP⟩:∃ P,findP (h.take i) y1=P:=⟨_,rfl⟩
 rw [hP] at CF HFT
 clear hP HA HH
 simp only at CF
 obtain ⟨bm,hbm⟩:∃ bm,decide (mayE (y0,y1,y2,y3))=bm:=⟨_,rfl⟩
 have HM:Hid (decide (mayE (y0,y1,y2,y3))=bm):=hbm
 rw [hbm] at CM
 obtain ⟨bw,hbw⟩:∃ bw,(fi (sameVal h y3) i).isSome=bw:=⟨_,rfl⟩
 have HBW:Hid ((fi (sameVal h y3) i).isSome=bw):=hbw
 rw [hbw] at CW
 obtain ⟨r,hr⟩:∃ r,writerL h y2 y3=r:=⟨_,rfl⟩
 have HR:Hid (writerL h y2 y3=r):=hr
 rw [hr] at CR
 clear hbm hbw hr
 have ji:(i:Int) < (h.length:Int):=by omega
 have jc:(i:Int)≤(cap:Int):=by omega
 have HN:Hid (i < h.length∧h.length≤256):=⟨hi,hn⟩
 clear hi hn
 go_enter Tryz.func49,Tryz.ntmps49
 go_wp2_with fail
 refine wp_region_any (by kernel_rfl) ?_
 change wpAny _ _ _ _ _ _ _ (World.drew _)
 refine any_of_C (C:=fun V=>V.cell? ⟨bb,off+i*4,none⟩=some (.int .i64 y0)∧V.cell? ⟨bb,off+i*4+1,none⟩=some (.int .i64 y1)∧V.cell? ⟨bb,off+i*4+2,none⟩=some (.string ⟨y2.toArray⟩)∧V.cell? ⟨bb,off+i*4+3,none⟩=some (.string ⟨y3.toArray⟩)) 9 _ _ _ _ ?_
 refine takeC (i:=0) (v:=.slice (some ⟨bb,off,none⟩) h.length cap) rfl (by kernel_rfl) (by kernel_rfl) (by kernel_rfl) (by kernel_rfl) (by kernel_rfl) (fun _ _ _ h=>h) (Or.inl ⟨by kernel_rfl,fun V hV=>by obtain ⟨r0,r1,r2,r3⟩:=hV;go_simp⟩) ?_
 refine takeC (i:=1) (v:=.int .i64 (i:Int)) rfl (by kernel_rfl) (by kernel_rfl) (by kernel_rfl) (by kernel_rfl) (by kernel_rfl) (fun _ _ _ h=>h) (Or.inl ⟨by kernel_rfl,fun V hV=>by obtain ⟨r0,r1,r2,r3⟩:=hV;go_simp⟩) ?_
 refine takeC (i:=2) (v:=.pointer (some ⟨bb,off+i*4,none⟩)) rfl (by kernel_rfl) (by kernel_rfl) (by kernel_rfl) (by kernel_rfl) (by kernel_rfl) (fun _ _ _ h=>h) (Or.inl ⟨by kernel_rfl,fun V hV=>by obtain ⟨r0,r1,r2,r3⟩:=hV;go_simp⟩) ?_
 refine takeC (i:=3) (v:=.agg #[.int .i64 y0,.int .i64 y1,.string ⟨y2.toArray⟩,.string ⟨y3.toArray⟩]) rfl (by kernel_rfl) (by kernel_rfl) (by kernel_rfl) (by kernel_rfl) (by kernel_rfl) (fun _ _ _ h=>h) (Or.inl ⟨by kernel_rfl,fun V hV=>by obtain ⟨r0,r1,r2,r3⟩:=hV;go_simp⟩) ?_
 refine takeC (i:=4) (v:=.slice (some ⟨bb,off,none⟩) h.length cap) rfl (by kernel_rfl) (by kernel_rfl) (by kernel_rfl) (by kernel_rfl) (by kernel_rfl) (fun _ _ _ h=>h) (Or.inl ⟨by kernel_rfl,fun V hV=>by obtain ⟨r0,r1,r2,r3⟩:=hV;go_simp⟩) ?_
 refine takeC (i:=5) (v:=.int .i64 (i:Int)) rfl (by kernel_rfl) (by kernel_rfl) (by kernel_rfl) (by kernel_rfl) (by kernel_rfl) (fun _ _ _ h=>h) (Or.inl ⟨by kernel_rfl,fun V hV=>by obtain ⟨r0,r1,r2,r3⟩:=hV;go_simp⟩) ?_
 refine takeC (i:=6) (v:=.slice (some ⟨bb,off,none⟩) i cap) rfl (by kernel_rfl) (by kernel_rfl) (by kernel_rfl) (by kernel_rfl) (by kernel_rfl) (fun _ _ _ h=>h) (Or.inl ⟨by kernel_rfl,fun V hV=>by obtain ⟨r0,r1,r2,r3⟩:=hV;go_simp⟩) ?_
 refine consC (i:=7) (by kernel_rfl) (by kernel_rfl) ⟨p0,p1,p2,p3⟩ rfl (fun K hK=>?_)
 go_wp2_with fail
 refine consC (i:=8) (by kernel_rfl) (by kernel_rfl) ⟨cell_al _ p0,cell_al _ p1,cell_al _ p2,cell_al _ p3⟩ rfl (fun K hK=>?_)
 go_wp2_with fail
 refine lastC (by kernel_rfl) (by kernel_rfl) ⟨cell_al _ p0,cell_al _ p1,cell_al _ p2,cell_al _ p3⟩ (of_decide_eq_true (by kernel_rfl)) ?_
 refine any_seqI [9] [_] _ _ _ rfl (by kernel_rfl) ?_
 have B0:Below w.heap.size w (w.alloc (.cells #[.int .i64 y0,.int .i64 y1,.string ⟨y2.toArray⟩,.string ⟨y3.toArray⟩] 49)).drew:=((Below.refl _ w).alloc (Nat.le_refl _) _).drew
 have X0:SBox (w.alloc (.cells #[.int .i64 y0,.int .i64 y1,.string ⟨y2.toArray⟩,.string ⟨y3.toArray⟩] 49)).drew w.heap.size 49 #[.int .i64 y0,.int .i64 y1,.string ⟨y2.toArray⟩,.string ⟨y3.toArray⟩]:=SBox.new w _ _
 obtain ⟨V0,hV0⟩:∃ V0,(w.alloc (.cells #[.int .i64 y0,.int .i64 y1,.string ⟨y2.toArray⟩,.string ⟨y3.toArray⟩] 49)).drew=V0:=⟨_,rfl⟩
 rw [hV0] at B0 X0
 have x1:=X0.cell 1 _ rfl
 go_wp2_with fail
 clear hV0
 refine (CF V0 B0).mono ?_
 rintro e V1 ⟨rfl,b1⟩
 have s0:=B0.size
 have B1:Below w.heap.size w V1:=B0.trans (b1.mono s0)
 have X1:=(X0.below b1).alloc (.cells #[.int .i64 f0,.int .i64 (f1:Int),.int .i64 (f2:Int),.bool f3] 91)
 have Lb:=SBox.new V1 91 #[.int .i64 f0,.int .i64 (f1:Int),.int .i64 (f2:Int),.bool f3]
 have z0:=X1.cell 0 _ rfl
 have z1:=X1.cell 1 _ rfl
 have z2:=X1.cell 2 _ rfl
 have z3:=X1.cell 3 _ rfl
 clear x1 X0 b1
 go_wp2_with fail
 refine (CM _).mono ?_
 rintro e V2 ⟨rfl,b2⟩
 have s1:=B1.size
 have B2:Below w.heap.size w V2:=(B1.alloc s1 (.cells #[.int .i64 f0,.int .i64 (f1:Int),.int .i64 (f2:Int),.bool f3] 91)).trans (b2.mono (by simp;omega))
 have X2:=X1.below b2
 have L2:=Lb.below b2
 have u0:=X2.cell 0 _ rfl
 have u2:=X2.cell 2 _ rfl
 have u3:=X2.cell 3 _ rfl
 have l2:=L2.cell 2 _ rfl
 have HX2:=Lib.hid X2
 have HB2:=Lib.hid B2
 clear z0 z1 z2 z3 X1 Lb b2 X2 L2
 cases bm with
 | false =>
   have HE:Hid (formStep h i=1):=fs_may HX.out (of_decide_eq_false HM.out)
   go_wp2_with fail
   go_ret
   exact ⟨by rw [HE.out];rfl,HB2.out⟩
 | true =>
   by_cases k1:y0=1
   ·have e1:(y0==1)=true:=by rw [k1];rfl
    have e2:(y0==2)=false:=by rw [k1];rfl
    have e3:(y0==3)=false:=by rw [k1];rfl
    cases th with
    | true =>
      have HE:Hid (formStep h i=8):=fs_there HX.out (of_decide_eq_true HM.out) k1 HFT.out.1.symm
      clear k1
      go_wp2_with fail
      go_ret
      exact ⟨by rw [HE.out];rfl,HB2.out⟩
    | false =>
      have HE:Hid (formStep h i=0):=fs_begin HX.out (of_decide_eq_true HM.out) k1 HFT.out.1.symm
      clear k1
      go_wp2_with fail
      go_ret
      exact ⟨by rw [HE.out];rfl,HB2.out⟩
   ·have e1:(y0==1)=false:=beq_eq_false_iff_ne.2 k1
    cases th with
    | false =>
      have HE:Hid (formStep h i=7):=fs_none HX.out (of_decide_eq_true HM.out) k1 HFT.out.1.symm
      clear k1
      go_wp2_with fail
      go_ret
      exact ⟨by rw [HE.out];rfl,HB2.out⟩
    | true =>
      have HFI:=Lib.hid (HFT.out.2 HFT.out.1.symm)
      by_cases kt:f2 < i
      ·have jt:(f2:Int) < (i:Int):=by omega
       have HE:Hid (formStep h i=9):=fs_state HX.out (of_decide_eq_true HM.out) k1 HFT.out.1.symm (HFI.out.1 kt)
       clear k1
       go_wp2_with fail
       go_ret
       exact ⟨by rw [HE.out];rfl,HB2.out⟩
      ·have jt:¬ (f2:Int) < (i:Int):=by omega
       have HE0:=Lib.hid (fs_rest HX.out (of_decide_eq_true HM.out) k1 HFT.out.1.symm (fun hh=>kt (HFI.out.2 hh)))
       by_cases k3:y0=3
       ·have e2:(y0==2)=false:=by rw [k3];rfl
        have e3:(y0==3)=true:=by rw [k3];rfl
        have K3:Hid (y0=3):=k3
        clear k1 k3
        go_wp2_with fail
        refine (CW _ HB2.out).mono ?_
        rintro e V3 ⟨rfl,b3⟩
        have s2:=HB2.out.size
        have B3:=HB2.out.trans (b3.mono s2)
        have X3:=HX2.out.below b3
        have t0:=X3.cell 0 _ rfl
        cases bw with
        | true =>
          have HE:Hid (formStep h i=8):=by show _=_;rw [HE0.out,if_pos ⟨K3.out,fun e=>by have:=HBW.out;rw [e] at this;cases this⟩]
          go_wp2_with fail
          go_ret
          exact ⟨by rw [HE.out];rfl,B3⟩
        | false =>
          have HE:Hid (formStep h i=0):=by
           show _=_
           rw [HE0.out,if_neg (fun hh=>hh.2 (by
            cases hq:fi (sameVal h y3) i with
            | none=>rfl
            | some q=>have:=HBW.out;rw [hq] at this;cases this)),if_neg (fun hh=>by rw [K3.out] at hh;exact absurd hh.1 (by decide))]
          go_wp2_with fail
          go_ret
          exact ⟨by rw [HE.out];rfl,B3⟩
       ·have e3:(y0==3)=false:=beq_eq_false_iff_ne.2 k3
        by_cases k2:y0=2
        ·have e2:(y0==2)=true:=by rw [k2];rfl
         by_cases kv:y3=[]
         ·have HE:Hid (formStep h i=0):=by show _=_;rw [HE0.out,if_neg (fun hh=>k3 hh.1),if_neg (fun hh=>hh.2.1 kv)]
          have ev1:y3.isEmpty=true:=by rw [kv];rfl
          have ev2:(y3 != [])=false:=by rw [kv];rfl
          have ev3:(y3==[])=true:=by rw [kv];rfl
          clear kv k1 k2 k3
          go_wp2_with fail
          go_ret
          exact ⟨by rw [HE.out];rfl,HB2.out⟩
         ·have ev1:y3.isEmpty=false:=ne_nil7 y3 kv
          have ev2:(y3 != [])=true:=by rw [bne_iff_ne];exact kv
          have ev3:(y3==[])=false:=beq_eq_false_iff_ne.2 kv
          have KV:Hid (y0=2∧y3≠[]∧¬ y0=3):=⟨k2,kv,k3⟩
          clear kv k1 k2 k3
          go_wp2_with fail
          refine (CR _ HB2.out).mono ?_
          rintro e V3 ⟨rfl,b3⟩
          have s2:=HB2.out.size
          have B3:=HB2.out.trans (b3.mono s2)
          cases r with
          | none =>
            have HE:Hid (formStep h i=7):=by show _=_;rw [HE0.out,if_neg (fun hh=>KV.out.2.2 hh.1),if_pos ⟨KV.out.1,KV.out.2.1,HR.out⟩]
            simp only [oI]
            go_wp2_with fail
            go_ret
            exact ⟨by rw [HE.out];rfl,B3⟩
          | some q =>
            have HE:Hid (formStep h i=0):=by show _=_;rw [HE0.out,if_neg (fun hh=>KV.out.2.2 hh.1),if_neg (fun hh=>by rw [HR.out] at hh;cases hh.2.2)]
            have eq1:((q:Int)==-1)=false:=by rw [beq_eq_false_iff_ne];omega
            simp only [oI]
            go_wp2_with fail
            go_ret
            exact ⟨by rw [HE.out];rfl,B3⟩
        ·have e2:(y0==2)=false:=beq_eq_false_iff_ne.2 k2
         have HE:Hid (formStep h i=0):=by show _=_;rw [HE0.out,if_neg (fun hh=>k3 hh.1),if_neg (fun hh=>k2 hh.1)]
         clear k1 k2 k3
         go_wp2_with fail
         go_ret
         exact ⟨by rw [HE.out];rfl,HB2.out⟩
end Go.Proofs.YtdlcimfifkhllaaGreat
