/-
  What the certificate's writer writes, whole; what cert.Bytes answers.
-/
import Derived.Test.YtkkenfhlgpjmjaaGreatDoorCL1b
namespace Go.Proofs.YtkkenfhlgpjmjaaGreatDoor
set_option maxRecDepth 100000
open Go.RowKit
set_option linter.unusedVariables false
set_option linter.unusedSimpArgs false
attribute [local go_sem] ba_size
theorem ints_lt14 {w:World} {v:Value} {L:List Int} (h:IsInts w v L) (x:Nat) (h0:0 < L.length) (hx:v.ownBlock=some x):x < w.heap.size:=by
 obtain ⟨a,n,cap,rfl,h1,h2,h3,h4,h6⟩:=h
 rcases h6 with h6 | ⟨b,off,rfl,hlt,hc⟩
 ·omega
 ·have e:x=b:=by simpa [Value.ownBlock,eq_comm] using hx
  omega
theorem edY_of (a0 a1 a2 a3 a4:Int):[a0,a1,a2,a3,a4].flatMap nb14=edY (a0,a1,a2,a3,a4):=by unfold edY;simp [List.append_assoc]
theorem edY_len14 (x:Ed):(edY x).length≤45:=by
 unfold edY
 simp only [List.length_append]
 have:=nb14_len x.1
 have:=nb14_len x.2.1
 have:=nb14_len x.2.2.1
 have:=nb14_len x.2.2.2.1
 have:=nb14_len x.2.2.2.2
 omega
def vdY (v:Vd):List UInt8:=nb14 v.1++nb14 (if v.2.1=true then 1 else 0)++nb14 (v.2.2.1.length:Int)++v.2.2.1.flatMap nb14++nb14 v.2.2.2.1.1++nb14 v.2.2.2.1.2.1++nb14 v.2.2.2.1.2.2++nb14 (v.2.2.2.2.length:Int)++v.2.2.2.2.flatMap edY
set_option maxHeartbeats 4000000 in
theorem pverdictw14_true (B b:Nat) (l:List UInt8) (lv k i j:Int) (oa:Option Addr) (oc:Nat) (o:List Int) (ra:Option Addr) (rc:Nat) (r:List Ed) (w0 w:World) (hO:IsInts w0 (.slice oa o.length oc) o) (hR:IsEds w0 (.slice ra r.length rc) r) (h0:Below w0.heap.size w0 w) (hW:WB B b l w) (hB:B=w0.heap.size) (hm:vdM (lv,true,o,(k,i,j),r)) (hlen:l.length≤1000000) :
 Calls Tryz.prog 105 #[.pointer (some ⟨b,0,none⟩),.agg #[.int .i64 lv,.bool true,.slice oa o.length oc,.int .i64 k,.int .i64 i,.int .i64 j,.slice ra r.length rc]] w fun e w'=>WrRes w B b (l++vdY (lv,true,o,(k,i,j),r)) e w':=by
 have hlt:=(bldW_lt hW).2
 have hBw:B≤w.heap.size:=by rw [hB];exact h0.size
 have m1:1≤lv∧lv≤2:=hm.1.1
 have m2:o.length≤32:=hm.1.2.1
 have m3:0≤k∧k≤4:=hm.1.2.2.1
 have m4:0≤i∧i≤255:=hm.1.2.2.2.1.1
 have m5:0≤j∧j≤255:=hm.1.2.2.2.1.2
 have m6:r.length≤128:=hm.1.2.2.2.2
 have m7:∀ n∈o,1≤n∧n≤32:=hm.2.1
 have M8:Hid (∀ x∈r,edM x):=hm.2.2
 have HY:Hid (vdY (lv,true,o,(k,i,j),r)=[lv,1,(o.length:Int)].flatMap nb14++o.flatMap nb14++[k,i,j,(r.length:Int)].flatMap nb14++r.flatMap edY):=by show _=_;unfold vdY;simp [List.append_assoc]
 have hf:=flat_few14 nb14 9 o (fun x _=>nb14_len x)
 clear hm
 have X0:=SBox.new w 28 #[.int .i64 lv,.bool true,.slice oa o.length oc,.int .i64 k,.int .i64 i,.int .i64 j,.slice ra r.length rc]
 have al:Below w.heap.size w (w.alloc (.cells #[.int .i64 lv,.bool true,.slice oa o.length oc,.int .i64 k,.int .i64 i,.int .i64 j,.slice ra r.length rc] 28)):=(Below.refl _ w).alloc (Nat.le_refl _) _
 have W0:=bldW_below hW al
 have F0:FrW B b w _:=FrW.below al hBw
 have P0:ApW b _ w.heap.size:=ApW.cells X0 (by omega) (by decide)
 have c0:(w.alloc (.cells #[.int .i64 lv,.bool true,.slice oa o.length oc,.int .i64 k,.int .i64 i,.int .i64 j,.slice ra r.length rc] 28)).cell? ⟨w.heap.size,0,none⟩=some (.int .i64 lv):=X0.cell 0 _ rfl
 have c1:(w.alloc (.cells #[.int .i64 lv,.bool true,.slice oa o.length oc,.int .i64 k,.int .i64 i,.int .i64 j,.slice ra r.length rc] 28)).cell? ⟨w.heap.size,1,none⟩=some (.bool true):=X0.cell 1 _ rfl
 have c2:(w.alloc (.cells #[.int .i64 lv,.bool true,.slice oa o.length oc,.int .i64 k,.int .i64 i,.int .i64 j,.slice ra r.length rc] 28)).cell? ⟨w.heap.size,2,none⟩=some (.slice oa o.length oc):=X0.cell 2 _ rfl
 go_enter Tryz.func105,Tryz.ntmps105
 go_wp2_with fail
 refine (pnumsL14_3 B b l lv 1 (o.length:Int) _ _ (by simp) W0 (by simp;omega) (by omega) (by omega) (by omega) (by omega)).mono ?_
 clear c0 c1 c2
 rintro e w1 ⟨rfl,W1,f1⟩
 obtain ⟨P1,e1⟩:=P0.later f1
 have X1:SBox w1 w.heap.size _ _:=e1.trans X0
 have F1:=F0.trans f1
 have hb1:=Nat.le_trans hBw F1.bel.size
 have c2:w1.cell? ⟨w.heap.size,2,none⟩=some (.slice oa o.length oc):=X1.cell 2 _ rfl
 clear W0 F0 P0 e1 X0 f1
 go_wp2_with fail
 refine (pnums14 B b _ o _ w1 W1 (hO.below (h0.trans (hB ▸ F1.bel))) (fun x h9 hx=>.inl (by rw [hB];exact ints_lt14 hO x h9 hx)) hb1 (by intro n hn;have:=m7 n hn;omega) (by have:=nb14_len lv;have:=nb14_len 1;have:=nb14_len (o.length:Int);simp only [List.length_append,List.flatMap_cons,List.flatMap_nil,List.append_nil];omega)).mono ?_
 clear c2
 rintro e w2 ⟨rfl,W2,f2⟩
 obtain ⟨P2,e2⟩:=P1.later f2
 have X2:SBox w2 w.heap.size _ _:=e2.trans X1
 have F2:=F1.trans f2
 have hb2:=Nat.le_trans hBw F2.bel.size
 have c3:w2.cell? ⟨w.heap.size,3,none⟩=some (.int .i64 k):=X2.cell 3 _ rfl
 have c4:w2.cell? ⟨w.heap.size,4,none⟩=some (.int .i64 i):=X2.cell 4 _ rfl
 have c5:w2.cell? ⟨w.heap.size,5,none⟩=some (.int .i64 j):=X2.cell 5 _ rfl
 have c6:w2.cell? ⟨w.heap.size,6,none⟩=some (.slice ra r.length rc):=X2.cell 6 _ rfl
 clear W1 F1 P1 e2 X1 f2
 go_wp2_with fail
 refine (pnumsL14_4 B b _ k i j (r.length:Int) _ _ rfl W2 hb2 (by omega) (by omega) (by omega) (by omega) (by have:=nb14_len lv;have:=nb14_len 1;have:=nb14_len (o.length:Int);simp only [List.length_append,List.flatMap_cons,List.flatMap_nil,List.append_nil];omega)).mono ?_
 clear c3 c4 c5 c6
 rintro e w3 ⟨rfl,W3,f3⟩
 obtain ⟨P3,e3⟩:=P2.later f3
 have X3:SBox w3 w.heap.size _ _:=e3.trans X2
 have F3:=F2.trans f3
 have hb3:=Nat.le_trans hBw F3.bel.size
 have c6:w3.cell? ⟨w.heap.size,6,none⟩=some (.slice ra r.length rc):=X3.cell 6 _ rfl
 clear W2 F2 P2 e3 X2 f3
 have HL:Hid ((l++[lv,1,(o.length:Int)].flatMap nb14++o.flatMap nb14++[k,i,j,(r.length:Int)].flatMap nb14).length≤1100000):=by
  show _≤_
  have:=nb14_len lv;have:=nb14_len 1;have:=nb14_len (o.length:Int);have:=nb14_len k;have:=nb14_len i;have:=nb14_len j;have:=nb14_len (r.length:Int)
  simp only [List.length_append,List.flatMap_cons,List.flatMap_nil,List.append_nil]
  omega
 obtain ⟨PRE,hPRE⟩:∃ PRE,l++[lv,1,(o.length:Int)].flatMap nb14++o.flatMap nb14++[k,i,j,(r.length:Int)].flatMap nb14=PRE:=⟨_,rfl⟩
 have HE:Hid (l++vdY (lv,true,o,(k,i,j),r)=PRE++r.flatMap edY):=by show _=_;rw [HY.out,← hPRE];simp only [List.append_assoc]
 rw [hPRE] at W3 HL
 clear hPRE HY
 obtain ⟨a,cap,hv,h1,h2,h3,HC⟩:=hR.some_at
 obtain ⟨rfl,rfl⟩:ra=a∧rc=cap:=by simpa using hv
 clear hv
 obtain ⟨n,hn⟩:∃ n,r.length=n:=⟨_,rfl⟩
 have HN:Hid (r.length=n):=hn
 rw [hn] at h1 h3 m6 c6 ⊢
 clear hn hR hO
 have HW0:Hid (WB B b (PRE++(r.take 0).flatMap edY) w3):=by show WB _ _ _ _;simpa using W3
 have HF0:Hid (FrW B b w w3):=F3
 clear W3 F3
 go_wp2_with fail
 go_loopw [40] (fun i wr=>∃ (k:Nat),k≤n∧i=.int .i64 k∧Hid (WB B b (PRE++(r.take k).flatMap edY) wr)∧Hid (FrW B b w wr)) (fun i _=>n - (RowKit.intOf i).toNat)
 case atStart=>exact ⟨0,Nat.zero_le _,rfl,HW0,HF0⟩
 case round =>
  obtain ⟨q,hq,rfl,HWk,HF⟩:=hrel
  by_cases hlt:q < n
  ·have hk1:q < r.length:=by have:=HN.out;omega
   obtain ⟨bb,off,rfl,hblt,hcell⟩:=HC.out q hk1
   have BW:Below w0.heap.size w0 wr:=h0.trans (hB ▸ HF.out.bel)
   have q0:wr.cell? ⟨bb,off+q*5,none⟩=some (.int .i64 r[q].1):=(BW.cell (p:=⟨bb,off+q*5,none⟩) hblt).trans (hcell 0 _ rfl)
   have q1:wr.cell? ⟨bb,off+q*5+1,none⟩=some (.int .i64 r[q].2.1):=(BW.cell (p:=⟨bb,off+q*5+1,none⟩) hblt).trans (hcell 1 _ rfl)
   have q2:wr.cell? ⟨bb,off+q*5+2,none⟩=some (.int .i64 r[q].2.2.1):=(BW.cell (p:=⟨bb,off+q*5+2,none⟩) hblt).trans (hcell 2 _ rfl)
   have q3:wr.cell? ⟨bb,off+q*5+3,none⟩=some (.int .i64 r[q].2.2.2.1):=(BW.cell (p:=⟨bb,off+q*5+3,none⟩) hblt).trans (hcell 3 _ rfl)
   have q4:wr.cell? ⟨bb,off+q*5+4,none⟩=some (.int .i64 r[q].2.2.2.2):=(BW.cell (p:=⟨bb,off+q*5+4,none⟩) hblt).trans (hcell 4 _ rfl)
   have hx:=M8.out r[q] (List.getElem_mem hk1)
   have HX:Hid ((r.take (q+1)).flatMap edY=(r.take q).flatMap edY++edY r[q]):=by show _=_;rw [List.take_succ_eq_append_getElem hk1,List.flatMap_append];simp
   generalize r[q]=y at q0 q1 q2 q3 q4 hx HX
   obtain ⟨a0,a1,a2,a3,a4⟩:=y
   simp only at q0 q1 q2 q3 q4
   have hml:=flat_few14 edY 45 (r.take q) (fun x _=>edY_len14 x)
   rw [List.length_take] at hml
   have n0:1≤a0∧a0≤3:=hx.1
   have n1:1≤a1∧a1≤32:=hx.2.1.1
   have n2:1≤a2∧a2≤32:=hx.2.1.2
   have n3:0≤a3∧a3≤255:=hx.2.2.1
   have n4:0≤a4∧a4≤255:=hx.2.2.2
   have hBr:B≤wr.heap.size:=Nat.le_trans hBw HF.out.bel.size
   have al2:Below wr.heap.size wr (wr.alloc (.cells #[.int .i64 a0,.int .i64 a1,.int .i64 a2,.int .i64 a3,.int .i64 a4] 71)):=(Below.refl _ wr).alloc (Nat.le_refl _) _
   have HW2:Hid (WB B b (PRE++(r.take q).flatMap edY) (wr.alloc (.cells #[.int .i64 a0,.int .i64 a1,.int .i64 a2,.int .i64 a3,.int .i64 a4] 71))):=bldW_below HWk.out al2
   have HF2:Hid (FrW B b w (wr.alloc (.cells #[.int .i64 a0,.int .i64 a1,.int .i64 a2,.int .i64 a3,.int .i64 a4] 71))):=HF.out.andBelow al2 hBr
   clear hx hcell al2 BW
   go_wp2_with fail
   refine (pnumsL14_5 B b _ a0 a1 a2 a3 a4 _ _ (by simp) HW2.out (by simp;omega) (by omega) (by omega) (by omega) (by omega) (by omega) (by have:=HL.out;rw [List.length_append];omega)).mono ?_
   rintro e w5 ⟨rfl,c5,f5⟩
   have HW3:Hid (WB B b (PRE++(r.take (q+1)).flatMap edY) w5):=by show WB _ _ _ _;rw [HX.out,← List.append_assoc,← edY_of];exact c5
   have HF3:Hid (FrW B b w w5):=HF2.out.trans f5
   clear c5 f5
   go_wp2_with fail
   go_roundw
   case rel=>exact ⟨q+1,by omega,by first | go_num | simp,HW3,HF3⟩
   case measure=>simp [RowKit.intOf];omega
  ·obtain rfl:q=n:=by omega
   have HZ:Hid (WB B b (l++vdY (lv,true,o,(k,i,j),r)) wr):=by have:=HWk.out;rw [List.take_of_length_le (by have:=HN.out;omega)] at this;show WB _ _ _ _;rw [HE.out];exact this
   go_wp2_with fail
   go_end0
   exact ⟨rfl,HZ.out,HF.out⟩
set_option maxHeartbeats 4000000 in
theorem pverdictw14_false (B b:Nat) (l:List UInt8) (lv k i j:Int) (oa:Option Addr) (oc:Nat) (o:List Int) (ra:Option Addr) (rc:Nat) (r:List Ed) (w0 w:World) (hO:IsInts w0 (.slice oa o.length oc) o) (hR:IsEds w0 (.slice ra r.length rc) r) (h0:Below w0.heap.size w0 w) (hW:WB B b l w) (hB:B=w0.heap.size) (hm:vdM (lv,false,o,(k,i,j),r)) (hlen:l.length≤1000000) :
 Calls Tryz.prog 105 #[.pointer (some ⟨b,0,none⟩),.agg #[.int .i64 lv,.bool false,.slice oa o.length oc,.int .i64 k,.int .i64 i,.int .i64 j,.slice ra r.length rc]] w fun e w'=>WrRes w B b (l++vdY (lv,false,o,(k,i,j),r)) e w':=by
 have hlt:=(bldW_lt hW).2
 have hBw:B≤w.heap.size:=by rw [hB];exact h0.size
 have m1:1≤lv∧lv≤2:=hm.1.1
 have m2:o.length≤32:=hm.1.2.1
 have m3:0≤k∧k≤4:=hm.1.2.2.1
 have m4:0≤i∧i≤255:=hm.1.2.2.2.1.1
 have m5:0≤j∧j≤255:=hm.1.2.2.2.1.2
 have m6:r.length≤128:=hm.1.2.2.2.2
 have m7:∀ n∈o,1≤n∧n≤32:=hm.2.1
 have M8:Hid (∀ x∈r,edM x):=hm.2.2
 have HY:Hid (vdY (lv,false,o,(k,i,j),r)=[lv,0,(o.length:Int)].flatMap nb14++o.flatMap nb14++[k,i,j,(r.length:Int)].flatMap nb14++r.flatMap edY):=by show _=_;unfold vdY;simp [List.append_assoc]
 have hf:=flat_few14 nb14 9 o (fun x _=>nb14_len x)
 clear hm
 have X0:=SBox.new w 28 #[.int .i64 lv,.bool false,.slice oa o.length oc,.int .i64 k,.int .i64 i,.int .i64 j,.slice ra r.length rc]
 have al:Below w.heap.size w (w.alloc (.cells #[.int .i64 lv,.bool false,.slice oa o.length oc,.int .i64 k,.int .i64 i,.int .i64 j,.slice ra r.length rc] 28)):=(Below.refl _ w).alloc (Nat.le_refl _) _
 have W0:=bldW_below hW al
 have F0:FrW B b w _:=FrW.below al hBw
 have P0:ApW b _ w.heap.size:=ApW.cells X0 (by omega) (by decide)
 have c0:(w.alloc (.cells #[.int .i64 lv,.bool false,.slice oa o.length oc,.int .i64 k,.int .i64 i,.int .i64 j,.slice ra r.length rc] 28)).cell? ⟨w.heap.size,0,none⟩=some (.int .i64 lv):=X0.cell 0 _ rfl
 have c1:(w.alloc (.cells #[.int .i64 lv,.bool false,.slice oa o.length oc,.int .i64 k,.int .i64 i,.int .i64 j,.slice ra r.length rc] 28)).cell? ⟨w.heap.size,1,none⟩=some (.bool false):=X0.cell 1 _ rfl
 have c2:(w.alloc (.cells #[.int .i64 lv,.bool false,.slice oa o.length oc,.int .i64 k,.int .i64 i,.int .i64 j,.slice ra r.length rc] 28)).cell? ⟨w.heap.size,2,none⟩=some (.slice oa o.length oc):=X0.cell 2 _ rfl
 go_enter Tryz.func105,Tryz.ntmps105
 go_wp2_with fail
 refine (pnumsL14_3 B b l lv 0 (o.length:Int) _ _ (by simp) W0 (by simp;omega) (by omega) (by omega) (by omega) (by omega)).mono ?_
 clear c0 c1 c2
 rintro e w1 ⟨rfl,W1,f1⟩
 obtain ⟨P1,e1⟩:=P0.later f1
 have X1:SBox w1 w.heap.size _ _:=e1.trans X0
 have F1:=F0.trans f1
 have hb1:=Nat.le_trans hBw F1.bel.size
 have c2:w1.cell? ⟨w.heap.size,2,none⟩=some (.slice oa o.length oc):=X1.cell 2 _ rfl
 clear W0 F0 P0 e1 X0 f1
 go_wp2_with fail
 refine (pnums14 B b _ o _ w1 W1 (hO.below (h0.trans (hB ▸ F1.bel))) (fun x h9 hx=>.inl (by rw [hB];exact ints_lt14 hO x h9 hx)) hb1 (by intro n hn;have:=m7 n hn;omega) (by have:=nb14_len lv;have:=nb14_len 0;have:=nb14_len (o.length:Int);simp only [List.length_append,List.flatMap_cons,List.flatMap_nil,List.append_nil];omega)).mono ?_
 clear c2
 rintro e w2 ⟨rfl,W2,f2⟩
 obtain ⟨P2,e2⟩:=P1.later f2
 have X2:SBox w2 w.heap.size _ _:=e2.trans X1
 have F2:=F1.trans f2
 have hb2:=Nat.le_trans hBw F2.bel.size
 have c3:w2.cell? ⟨w.heap.size,3,none⟩=some (.int .i64 k):=X2.cell 3 _ rfl
 have c4:w2.cell? ⟨w.heap.size,4,none⟩=some (.int .i64 i):=X2.cell 4 _ rfl
 have c5:w2.cell? ⟨w.heap.size,5,none⟩=some (.int .i64 j):=X2.cell 5 _ rfl
 have c6:w2.cell? ⟨w.heap.size,6,none⟩=some (.slice ra r.length rc):=X2.cell 6 _ rfl
 clear W1 F1 P1 e2 X1 f2
 go_wp2_with fail
 refine (pnumsL14_4 B b _ k i j (r.length:Int) _ _ rfl W2 hb2 (by omega) (by omega) (by omega) (by omega) (by have:=nb14_len lv;have:=nb14_len 0;have:=nb14_len (o.length:Int);simp only [List.length_append,List.flatMap_cons,List.flatMap_nil,List.append_nil];omega)).mono ?_
 clear c3 c4 c5 c6
 rintro e w3 ⟨rfl,W3,f3⟩
 obtain ⟨P3,e3⟩:=P2.later f3
 have X3:SBox w3 w.heap.size _ _:=e3.trans X2
 have F3:=F2.trans f3
 have hb3:=Nat.le_trans hBw F3.bel.size
 have c6:w3.cell? ⟨w.heap.size,6,none⟩=some (.slice ra r.length rc):=X3.cell 6 _ rfl
 clear W2 F2 P2 e3 X2 f3
 have HL:Hid ((l++[lv,0,(o.length:Int)].flatMap nb14++o.flatMap nb14++[k,i,j,(r.length:Int)].flatMap nb14).length≤1100000):=by
  show _≤_
  have:=nb14_len lv;have:=nb14_len 0;have:=nb14_len (o.length:Int);have:=nb14_len k;have:=nb14_len i;have:=nb14_len j;have:=nb14_len (r.length:Int)
  simp only [List.length_append,List.flatMap_cons,List.flatMap_nil,List.append_nil]
  omega
 obtain ⟨PRE,hPRE⟩:∃ PRE,l++[lv,0,(o.length:Int)].flatMap nb14++o.flatMap nb14++[k,i,j,(r.length:Int)].flatMap nb14=PRE:=⟨_,rfl⟩
 have HE:Hid (l++vdY (lv,false,o,(k,i,j),r)=PRE++r.flatMap edY):=by show _=_;rw [HY.out,← hPRE];simp only [List.append_assoc]
 rw [hPRE] at W3 HL
 clear hPRE HY
 obtain ⟨a,cap,hv,h1,h2,h3,HC⟩:=hR.some_at
 obtain ⟨rfl,rfl⟩:ra=a∧rc=cap:=by simpa using hv
 clear hv
 obtain ⟨n,hn⟩:∃ n,r.length=n:=⟨_,rfl⟩
 have HN:Hid (r.length=n):=hn
 rw [hn] at h1 h3 m6 c6 ⊢
 clear hn hR hO
 have HW0:Hid (WB B b (PRE++(r.take 0).flatMap edY) w3):=by show WB _ _ _ _;simpa using W3
 have HF0:Hid (FrW B b w w3):=F3
 clear W3 F3
 go_wp2_with fail
 go_loopw [40] (fun i wr=>∃ (k:Nat),k≤n∧i=.int .i64 k∧Hid (WB B b (PRE++(r.take k).flatMap edY) wr)∧Hid (FrW B b w wr)) (fun i _=>n - (RowKit.intOf i).toNat)
 case atStart=>exact ⟨0,Nat.zero_le _,rfl,HW0,HF0⟩
 case round =>
  obtain ⟨q,hq,rfl,HWk,HF⟩:=hrel
  by_cases hlt:q < n
  ·have hk1:q < r.length:=by have:=HN.out;omega
   obtain ⟨bb,off,rfl,hblt,hcell⟩:=HC.out q hk1
   have BW:Below w0.heap.size w0 wr:=h0.trans (hB ▸ HF.out.bel)
   have q0:wr.cell? ⟨bb,off+q*5,none⟩=some (.int .i64 r[q].1):=(BW.cell (p:=⟨bb,off+q*5,none⟩) hblt).trans (hcell 0 _ rfl)
   have q1:wr.cell? ⟨bb,off+q*5+1,none⟩=some (.int .i64 r[q].2.1):=(BW.cell (p:=⟨bb,off+q*5+1,none⟩) hblt).trans (hcell 1 _ rfl)
   have q2:wr.cell? ⟨bb,off+q*5+2,none⟩=some (.int .i64 r[q].2.2.1):=(BW.cell (p:=⟨bb,off+q*5+2,none⟩) hblt).trans (hcell 2 _ rfl)
   have q3:wr.cell? ⟨bb,off+q*5+3,none⟩=some (.int .i64 r[q].2.2.2.1):=(BW.cell (p:=⟨bb,off+q*5+3,none⟩) hblt).trans (hcell 3 _ rfl)
   have q4:wr.cell? ⟨bb,off+q*5+4,none⟩=some (.int .i64 r[q].2.2.2.2):=(BW.cell (p:=⟨bb,off+q*5+4,none⟩) hblt).trans (hcell 4 _ rfl)
   have hx:=M8.out r[q] (List.getElem_mem hk1)
   have HX:Hid ((r.take (q+1)).flatMap edY=(r.take q).flatMap edY++edY r[q]):=by show _=_;rw [List.take_succ_eq_append_getElem hk1,List.flatMap_append];simp
   generalize r[q]=y at q0 q1 q2 q3 q4 hx HX
   obtain ⟨a0,a1,a2,a3,a4⟩:=y
   simp only at q0 q1 q2 q3 q4
   have hml:=flat_few14 edY 45 (r.take q) (fun x _=>edY_len14 x)
   rw [List.length_take] at hml
   have n0:1≤a0∧a0≤3:=hx.1
   have n1:1≤a1∧a1≤32:=hx.2.1.1
   have n2:1≤a2∧a2≤32:=hx.2.1.2
   have n3:0≤a3∧a3≤255:=hx.2.2.1
   have n4:0≤a4∧a4≤255:=hx.2.2.2
   have hBr:B≤wr.heap.size:=Nat.le_trans hBw HF.out.bel.size
   have al2:Below wr.heap.size wr (wr.alloc (.cells #[.int .i64 a0,.int .i64 a1,.int .i64 a2,.int .i64 a3,.int .i64 a4] 71)):=(Below.refl _ wr).alloc (Nat.le_refl _) _
   have HW2:Hid (WB B b (PRE++(r.take q).flatMap edY) (wr.alloc (.cells #[.int .i64 a0,.int .i64 a1,.int .i64 a2,.int .i64 a3,.int .i64 a4] 71))):=bldW_below HWk.out al2
   have HF2:Hid (FrW B b w (wr.alloc (.cells #[.int .i64 a0,.int .i64 a1,.int .i64 a2,.int .i64 a3,.int .i64 a4] 71))):=HF.out.andBelow al2 hBr
   clear hx hcell al2 BW
   go_wp2_with fail
   refine (pnumsL14_5 B b _ a0 a1 a2 a3 a4 _ _ (by simp) HW2.out (by simp;omega) (by omega) (by omega) (by omega) (by omega) (by omega) (by have:=HL.out;rw [List.length_append];omega)).mono ?_
   rintro e w5 ⟨rfl,c5,f5⟩
   have HW3:Hid (WB B b (PRE++(r.take (q+1)).flatMap edY) w5):=by show WB _ _ _ _;rw [HX.out,← List.append_assoc,← edY_of];exact c5
   have HF3:Hid (FrW B b w w5):=HF2.out.trans f5
   clear c5 f5
   go_wp2_with fail
   go_roundw
   case rel=>exact ⟨q+1,by omega,by first | go_num | simp,HW3,HF3⟩
   case measure=>simp [RowKit.intOf];omega
  ·obtain rfl:q=n:=by omega
   have HZ:Hid (WB B b (l++vdY (lv,false,o,(k,i,j),r)) wr):=by have:=HWk.out;rw [List.take_of_length_le (by have:=HN.out;omega)] at this;show WB _ _ _ _;rw [HE.out];exact this
   go_wp2_with fail
   go_end0
   exact ⟨rfl,HZ.out,HF.out⟩
set_option maxHeartbeats 4000000 in
theorem pcertw14 (B b:Nat) (tn:List UInt8) (sq:Int) (pv rt:List UInt8) (ct lv k i j:Int) (ac:Bool) (oa:Option Addr) (oc:Nat) (o:List Int) (ra:Option Addr) (rc:Nat) (r:List Ed) (pa:Option Addr) (pc:Nat) (p:List Pf) (w0 w:World) (hO:IsInts w0 (.slice oa o.length oc) o) (hR:IsEds w0 (.slice ra r.length rc) r) (hP:IsPfs w0 (.slice pa p.length pc) p) (h0:Below w0.heap.size w0 w) (hW:WB B b [] w) (hB:B=w0.heap.size) (hm:mayC (tn,sq,pv,rt,ct,(lv,ac,o,(k,i,j),r),p)) :
 Calls Tryz.prog 44 #[.pointer (some ⟨b,0,none⟩),.agg #[.string ⟨tn.toArray⟩,.int .i64 sq,.string ⟨pv.toArray⟩,.string ⟨rt.toArray⟩,.int .i64 ct,.int .i64 lv,.bool ac,.slice oa o.length oc,.int .i64 k,.int .i64 i,.int .i64 j,.slice ra r.length rc,.slice pa p.length pc]] w fun e w'=>WrRes w B b (bytC (tn,sq,pv,rt,ct,(lv,ac,o,(k,i,j),r),p)) e w':=by
 have hlt:=(bldW_lt hW).2
 have hBw:B≤w.heap.size:=by rw [hB];exact h0.size
 have m1:1≤tn.length∧tn.length≤16:=hm.1.1
 have m2:1≤sq∧sq≤1048576:=hm.1.2.1
 have m3:pv.length≤32:=by have:pv.length=0∨pv.length=32:=hm.1.2.2.1;omega
 have m4:rt.length=32:=hm.1.2.2.2.1
 have m5:0≤ct∧ct≤256:=hm.1.2.2.2.2
 have M6:Hid (vdM (lv,ac,o,(k,i,j),r)):=hm.2.1
 have m7:p.length≤256:=hm.2.2.1
 have M8:Hid (∀ x∈p,pfM x):=hm.2.2.2
 have HTOT:Hid (bytC (tn,sq,pv,rt,ct,(lv,ac,o,(k,i,j),r),p)=[]++txtE tn++[sq].flatMap nb14++txtE pv++txtE rt++[ct].flatMap nb14++vdY (lv,ac,o,(k,i,j),r)++[(p.length:Int)].flatMap nb14++p.flatMap pfY):=by show _=_;unfold bytC vdY;simp only [List.nil_append,List.flatMap_cons,List.flatMap_nil,List.append_nil,List.append_assoc]
 have hVL:(vdY (lv,ac,o,(k,i,j),r)).length≤10000:=by
  have m61:o.length≤32:=hm.2.1.1.2.1
  have m62:r.length≤128:=hm.2.1.1.2.2.2.2
  have e1:=flat_few14 nb14 9 o (fun x _=>nb14_len x)
  have e2:=flat_few14 edY 45 r (fun x _=>edY_len14 x)
  unfold vdY
  simp only [List.length_append]
  have:=nb14_len lv;have:=nb14_len (if ac=true then 1 else 0);have:=nb14_len (o.length:Int);have:=nb14_len k;have:=nb14_len i;have:=nb14_len j;have:=nb14_len (r.length:Int)
  omega
 have HVW:Hid (∀ (l:List UInt8) (W:World),WB B b l W→Below w0.heap.size w0 W→l.length≤1000000→Calls Tryz.prog 105 #[.pointer (some ⟨b,0,none⟩),.agg #[.int .i64 lv,.bool ac,.slice oa o.length oc,.int .i64 k,.int .i64 i,.int .i64 j,.slice ra r.length rc]] W fun e w'=>WrRes W B b (l++vdY (lv,ac,o,(k,i,j),r)) e w'):=fun l W h1 h2 h3=>by
  have h9:=M6.out
  cases ac with
  | true=>exact pverdictw14_true B b l lv k i j oa oc o ra rc r w0 W hO hR h2 h1 hB h9 h3
  | false=>exact pverdictw14_false B b l lv k i j oa oc o ra rc r w0 W hO hR h2 h1 hB h9 h3
 obtain ⟨ANS,hANS⟩:∃ A,bytC (tn,sq,pv,rt,ct,(lv,ac,o,(k,i,j),r),p)=A:=⟨_,rfl⟩
 rw [hANS] at HTOT ⊢
 clear hm hO hR hANS
 have l1:=txtE_len14 tn
 have l2:=txtE_len14 pv
 have l3:=txtE_len14 rt
 have l4:=nb14_len sq
 have l5:=nb14_len ct
 have l6:=nb14_len (p.length:Int)
 generalize vdY (lv,ac,o,(k,i,j),r)=VY at *
 have X0:=SBox.new w 35 #[.string ⟨tn.toArray⟩,.int .i64 sq,.string ⟨pv.toArray⟩,.string ⟨rt.toArray⟩,.int .i64 ct,.int .i64 lv,.bool ac,.slice oa o.length oc,.int .i64 k,.int .i64 i,.int .i64 j,.slice ra r.length rc,.slice pa p.length pc]
 have al:Below w.heap.size w (w.alloc (.cells #[.string ⟨tn.toArray⟩,.int .i64 sq,.string ⟨pv.toArray⟩,.string ⟨rt.toArray⟩,.int .i64 ct,.int .i64 lv,.bool ac,.slice oa o.length oc,.int .i64 k,.int .i64 i,.int .i64 j,.slice ra r.length rc,.slice pa p.length pc] 35)):=(Below.refl _ w).alloc (Nat.le_refl _) _
 have W0:=bldW_below hW al
 have F0:FrW B b w _:=FrW.below al hBw
 have P0:ApW b _ w.heap.size:=ApW.cells X0 (by omega) (by decide)
 have hb0:B≤(w.alloc (.cells #[.string ⟨tn.toArray⟩,.int .i64 sq,.string ⟨pv.toArray⟩,.string ⟨rt.toArray⟩,.int .i64 ct,.int .i64 lv,.bool ac,.slice oa o.length oc,.int .i64 k,.int .i64 i,.int .i64 j,.slice ra r.length rc,.slice pa p.length pc] 35)).heap.size:=by simp;omega
 have c0:(w.alloc (.cells #[.string ⟨tn.toArray⟩,.int .i64 sq,.string ⟨pv.toArray⟩,.string ⟨rt.toArray⟩,.int .i64 ct,.int .i64 lv,.bool ac,.slice oa o.length oc,.int .i64 k,.int .i64 i,.int .i64 j,.slice ra r.length rc,.slice pa p.length pc] 35)).cell? ⟨w.heap.size,0,none⟩=some (.string ⟨tn.toArray⟩):=X0.cell 0 _ rfl
 go_enter Tryz.func44,Tryz.ntmps44
 go_wp2_with fail
 refine (ptextw14 B b [] tn _ W0 hb0 (by omega) (by simp)).mono ?_
 clear c0
 rintro e w1 ⟨rfl,W1,f1⟩
 obtain ⟨P1,e1⟩:=P0.later f1
 have X1:SBox w1 w.heap.size _ _:=e1.trans X0
 have F1:=F0.trans f1
 have hb1:=Nat.le_trans hBw F1.bel.size
 have c1:w1.cell? ⟨w.heap.size,1,none⟩=some (.int .i64 sq):=X1.cell 1 _ rfl
 clear W0 F0 P0 e1 X0 f1
 go_wp2_with fail
 refine (pnumsL14_1 B b _ sq _ _ rfl W1 hb1 (by omega) (by simp only [List.length_append,List.flatMap_cons,List.flatMap_nil,List.append_nil,List.length_nil];omega)).mono ?_
 clear c1
 rintro e w2 ⟨rfl,W2,f2⟩
 obtain ⟨P2,e2⟩:=P1.later f2
 have X2:SBox w2 w.heap.size _ _:=e2.trans X1
 have F2:=F1.trans f2
 have hb2:=Nat.le_trans hBw F2.bel.size
 have c2:w2.cell? ⟨w.heap.size,2,none⟩=some (.string ⟨pv.toArray⟩):=X2.cell 2 _ rfl
 clear W1 F1 P1 e2 X1 f2
 go_wp2_with fail
 refine (ptextw14 B b _ pv _ W2 hb2 (by omega) (by simp only [List.length_append,List.flatMap_cons,List.flatMap_nil,List.append_nil,List.length_nil];omega)).mono ?_
 clear c2
 rintro e w3 ⟨rfl,W3,f3⟩
 obtain ⟨P3,e3⟩:=P2.later f3
 have X3:SBox w3 w.heap.size _ _:=e3.trans X2
 have F3:=F2.trans f3
 have hb3:=Nat.le_trans hBw F3.bel.size
 have c3:w3.cell? ⟨w.heap.size,3,none⟩=some (.string ⟨rt.toArray⟩):=X3.cell 3 _ rfl
 clear W2 F2 P2 e3 X2 f3
 go_wp2_with fail
 refine (ptextw14 B b _ rt _ W3 hb3 (by omega) (by simp only [List.length_append,List.flatMap_cons,List.flatMap_nil,List.append_nil,List.length_nil];omega)).mono ?_
 clear c3
 rintro e w4 ⟨rfl,W4,f4⟩
 obtain ⟨P4,e4⟩:=P3.later f4
 have X4:SBox w4 w.heap.size _ _:=e4.trans X3
 have F4:=F3.trans f4
 have hb4:=Nat.le_trans hBw F4.bel.size
 have c4:w4.cell? ⟨w.heap.size,4,none⟩=some (.int .i64 ct):=X4.cell 4 _ rfl
 clear W3 F3 P3 e4 X3 f4
 go_wp2_with fail
 refine (pnumsL14_1 B b _ ct _ _ rfl W4 hb4 (by omega) (by simp only [List.length_append,List.flatMap_cons,List.flatMap_nil,List.append_nil,List.length_nil];omega)).mono ?_
 clear c4
 rintro e w5 ⟨rfl,W5,f5⟩
 obtain ⟨P5,e5⟩:=P4.later f5
 have X5:SBox w5 w.heap.size _ _:=e5.trans X4
 have F5:=F4.trans f5
 have hb5:=Nat.le_trans hBw F5.bel.size
 have c5:w5.cell? ⟨w.heap.size,5,none⟩=some (.int .i64 lv):=X5.cell 5 _ rfl
 have c6:w5.cell? ⟨w.heap.size,6,none⟩=some (.bool ac):=X5.cell 6 _ rfl
 have c7:w5.cell? ⟨w.heap.size,7,none⟩=some (.slice oa o.length oc):=X5.cell 7 _ rfl
 have c8:w5.cell? ⟨w.heap.size,8,none⟩=some (.int .i64 k):=X5.cell 8 _ rfl
 have c9:w5.cell? ⟨w.heap.size,9,none⟩=some (.int .i64 i):=X5.cell 9 _ rfl
 have c10:w5.cell? ⟨w.heap.size,10,none⟩=some (.int .i64 j):=X5.cell 10 _ rfl
 have c11:w5.cell? ⟨w.heap.size,11,none⟩=some (.slice ra r.length rc):=X5.cell 11 _ rfl
 clear W4 F4 P4 e5 X4 f5
 go_wp2_with fail
 refine (HVW.out _ _ W5 (h0.trans (hB ▸ F5.bel)) (by simp only [List.length_append,List.flatMap_cons,List.flatMap_nil,List.append_nil,List.length_nil];omega)).mono ?_
 clear c5 c6 c7 c8 c9 c10 c11
 rintro e w6 ⟨rfl,W6,f6⟩
 obtain ⟨P6,e6⟩:=P5.later f6
 have X6:SBox w6 w.heap.size _ _:=e6.trans X5
 have F6:=F5.trans f6
 have hb6:=Nat.le_trans hBw F6.bel.size
 have c12:w6.cell? ⟨w.heap.size,12,none⟩=some (.slice pa p.length pc):=X6.cell 12 _ rfl
 clear W5 F5 P5 e6 X5 f6
 go_wp2_with fail
 refine (pnumsL14_1 B b _ (p.length:Int) _ _ rfl W6 hb6 (by omega) (by simp only [List.length_append,List.flatMap_cons,List.flatMap_nil,List.append_nil,List.length_nil];omega)).mono ?_
 clear c12
 rintro e w7 ⟨rfl,W7,f7⟩
 obtain ⟨P7,e7⟩:=P6.later f7
 have X7:SBox w7 w.heap.size _ _:=e7.trans X6
 have F7:=F6.trans f7
 have hb7:=Nat.le_trans hBw F7.bel.size
 have c12:w7.cell? ⟨w.heap.size,12,none⟩=some (.slice pa p.length pc):=X7.cell 12 _ rfl
 clear W6 F6 P6 e7 X6 f7
 obtain ⟨PRE,hPRE⟩:∃ PRE,[]++txtE tn++[sq].flatMap nb14++txtE pv++txtE rt++[ct].flatMap nb14++VY++[(p.length:Int)].flatMap nb14=PRE:=⟨_,rfl⟩
 have HL:Hid (PRE.length≤1000000):=by
  show _≤_
  rw [← hPRE]
  simp only [List.length_append,List.flatMap_cons,List.flatMap_nil,List.append_nil,List.length_nil]
  omega
 rw [hPRE] at W7 HTOT
 clear hPRE
 obtain ⟨a,cap,hv,h1,h2,h3,HC⟩:=hP.reads
 obtain ⟨rfl,rfl⟩:pa=a∧pc=cap:=by simpa using hv
 clear hv
 obtain ⟨n,hn⟩:∃ n,p.length=n:=⟨_,rfl⟩
 have HN:Hid (p.length=n):=hn
 have HANS:Hid (∀ W,WB B b (PRE++p.flatMap pfY) W→WB B b ANS W):=fun W h=>by rw [HTOT.out];exact h
 clear HTOT
 rw [hn] at h1 h3 m7 c12 ⊢
 clear hn hP
 have HW0:Hid (WB B b (PRE++(p.take 0).flatMap pfY) w7):=by show WB _ _ _ _;simpa using W7
 have HF0:Hid (FrW B b w w7):=F7
 clear W7 F7
 go_wp2_with fail
 go_loopw [41] (fun i wr=>∃ (k:Nat),k≤n∧i=.int .i64 k∧Hid (WB B b (PRE++(p.take k).flatMap pfY) wr)∧Hid (FrW B b w wr)) (fun i _=>n - (RowKit.intOf i).toNat)
 case atStart=>exact ⟨0,Nat.zero_le _,rfl,HW0,HF0⟩
 case round =>
  obtain ⟨q,hq,rfl,HWk,HF⟩:=hrel
  by_cases hlt:q < n
  ·have hk1:q < p.length:=by have:=HN.out;omega
   have BW:Below w0.heap.size w0 wr:=h0.trans (hB ▸ HF.out.bel)
   obtain ⟨bb,off,rfl,u,hu,hcell⟩:=HC.out q hk1
   obtain ⟨q0,q1,q2,q3,q4,q5⟩:=hcell wr BW
   have HM:Hid (pfM p[q]):=M8.out p[q] (List.getElem_mem hk1)
   have HX:Hid ((p.take (q+1)).flatMap pfY=(p.take q).flatMap pfY++pfY p[q]):=by show _=_;rw [List.take_succ_eq_append_getElem hk1,List.flatMap_append];simp
   have hml:((p.take q).flatMap pfY).length≤(p.take q).length*2000000:=flat_few14 pfY 2000000 (p.take q) (fun x hx=>by
    obtain ⟨⟨_,g1⟩,g2,g3⟩:=M8.out x (List.mem_of_mem_take hx)
    have b1:=(bytE_len x.2.1 g1).1
    have b2:=txtE_len14 (bytE x.2.1)
    have b3:=row_few14 x.2.2 g2 g3
    have b4:=nb14_len x.1
    unfold pfY
    rw [List.length_append,List.length_append]
    omega)
   rw [List.length_take] at hml
   generalize p[q]=y at q0 q1 q2 q3 q4 hu HM HX
   obtain ⟨p0,⟨y0,y1,y2,y3⟩,ss⟩:=y
   simp only at q0 q1 q2 q3 q4 hu
   obtain ⟨ua,uc,rfl,_⟩:=hu.len
   have hBr:B≤wr.heap.size:=Nat.le_trans hBw HF.out.bel.size
   have al2:Below wr.heap.size wr (wr.alloc (.cells #[.int .i64 p0,.int .i64 y0,.int .i64 y1,.string ⟨y2.toArray⟩,.string ⟨y3.toArray⟩,.slice ua ss.length uc] 66)):=(Below.refl _ wr).alloc (Nat.le_refl _) _
   have HW2:Hid (WB B b (PRE++(p.take q).flatMap pfY) (wr.alloc (.cells #[.int .i64 p0,.int .i64 y0,.int .i64 y1,.string ⟨y2.toArray⟩,.string ⟨y3.toArray⟩,.slice ua ss.length uc] 66))):=bldW_below HWk.out al2
   have HF2:Hid (FrW B b w (wr.alloc (.cells #[.int .i64 p0,.int .i64 y0,.int .i64 y1,.string ⟨y2.toArray⟩,.string ⟨y3.toArray⟩,.slice ua ss.length uc] 66))):=HF.out.andBelow al2 hBr
   have BW2:Below w0.heap.size w0 (wr.alloc (.cells #[.int .i64 p0,.int .i64 y0,.int .i64 y1,.string ⟨y2.toArray⟩,.string ⟨y3.toArray⟩,.slice ua ss.length uc] 66)):=BW.trans (al2.mono BW.size)
   clear hcell al2 BW
   go_wp2_with fail
   refine (pproofw14 B b _ p0 y0 y1 y2 y3 ua uc ss w0 _ hu BW2 HW2.out hB HM.out (by have:=HL.out;rw [List.length_append];omega)).mono ?_
   rintro e w9 ⟨rfl,c9,f9⟩
   have HW3:Hid (WB B b (PRE++(p.take (q+1)).flatMap pfY) w9):=by show WB _ _ _ _;rw [HX.out,← List.append_assoc];exact c9
   have HF3:Hid (FrW B b w w9):=HF2.out.trans f9
   clear c9 f9
   go_wp2_with fail
   go_roundw
   case rel=>exact ⟨q+1,by omega,by first | go_num | simp,HW3,HF3⟩
   case measure=>simp [RowKit.intOf];omega
  ·obtain rfl:q=n:=by omega
   have HZ:Hid (WB B b (PRE++p.flatMap pfY) wr):=by have:=HWk.out;rw [List.take_of_length_le (by have:=HN.out;omega)] at this;exact this
   go_wp2_with fail
   go_end0
   exact ⟨rfl,HANS.out _ HZ.out,HF.out⟩
set_option maxHeartbeats 1000000 in
set_option maxRecDepth 100000 in
theorem stringW (B b:Nat) (l:List UInt8) (w:World) (h:Lib.IsBuilder TW 5 B b (Lib.byteCells l) w) (h0:l≠[]) :
 Calls Tryz.prog 45 #[.pointer (some ⟨b,0,none⟩)] w fun e w'=>e=.returned (.string ⟨l.toArray⟩)∧Below B w w':=by
 obtain ⟨hB,p,v,hbk,hown⟩:B≤b∧∃ p v,w.heap[b]?=some (.cells #[p,v] TW (0,0))∧w.ownsRow B 5 1 v (Lib.byteCells l).length (Lib.byteCells l):=by
  rcases h with ⟨h1,v,h2,h3,_⟩ | ⟨h1,v,h2,h3,_⟩
  ·exact ⟨h1,_,v,h2,h3⟩
  ·exact ⟨h1,_,v,h2,h3⟩
 have hl0:l.length≠0:=by simpa using h0
 rw [Lib.byteCells_length] at hown
 obtain ⟨g,cap,cur,rfl,hbg,hg,hnc,hcm,hcs,htake⟩:∃ g cap cur,v=.slice (some ⟨g,0,none⟩) l.length cap∧B≤g∧w.heap[g]?=some (.cells cur 5 (0,0))∧l.length≤cap∧cap≤maxLen∧cur.size=cap*1∧cur.toList.take (l.length*1)=Lib.byteCells l:=by
  rcases hown.2 with ⟨_,hz⟩ | ⟨g,cap,cur,hv,r⟩
  ·exact absurd hz hl0
  ·exact ⟨g,cap,cur,hv,r⟩
 have c1:w.drew.cell? ⟨b,1,none⟩=some (.slice (some ⟨g,0,none⟩) l.length cap):=by
  have:w.drew.heap[b]?=some (.cells #[p,.slice (some ⟨g,0,none⟩) l.length cap] TW (0,0)):=hbk
  rw [Lib.cell_of_heap this];rfl
 have hSD:(Builtin.unsafeSliceData_ #[98] 174 #[.slice (some ⟨g,0,none⟩) l.length cap]).run Tryz.prog w.drew=.ok (.pointer (some ⟨g,0,none⟩)) w.drew :=
  Lib.run_unsafeSliceData_row _ _ _ _ _ _ (by omega)
 have hUS:(Builtin.unsafeString_ #[174,3] 9 #[.pointer (some ⟨g,0,none⟩),.int .i64 l.length]).run Tryz.prog w.drew=.ok (.string ⟨l.toArray⟩) (w.drew.freeze ⟨g,0,none⟩ l.length):=by
  refine Lib.run_unsafeString_row w.drew 174 3 9 5 Tryz.underlying174 (by kernel_rfl) g cur.size (by have hg':w.drew.heap[g]?=some (.cells cur 5 (0,0)):=hg;simp [World.shape?,hg']) l h0 (by omega) (by unfold maxLen at hcm;omega) ?_
  intro j x hx
  exact hown.cells (g:=g) rfl j (.int .u8 x.toNat) (by simp [Lib.byteCells,hx])
 go_enter Tryz.func45,Tryz.ntmps45
 go_wp2
 go_region
 all_goals (go_wp2;go_ret;exact ⟨rfl,Lib.below_freeze (Below.drew (Below.refl B w)) (p:=⟨g,0,none⟩) hbg _⟩)
set_option maxHeartbeats 4000000 in
theorem pbytesc14 (tn:List UInt8) (sq:Int) (pv rt:List UInt8) (ct lv k i j:Int) (ac:Bool) (oa:Option Addr) (oc:Nat) (o:List Int) (ra:Option Addr) (rc:Nat) (r:List Ed) (pa:Option Addr) (pc:Nat) (p:List Pf) (w:World) (hO:IsInts w (.slice oa o.length oc) o) (hR:IsEds w (.slice ra r.length rc) r) (hP:IsPfs w (.slice pa p.length pc) p) :
 Calls Tryz.prog 18 #[.agg #[.string ⟨tn.toArray⟩,.int .i64 sq,.string ⟨pv.toArray⟩,.string ⟨rt.toArray⟩,.int .i64 ct,.int .i64 lv,.bool ac,.slice oa o.length oc,.int .i64 k,.int .i64 i,.int .i64 j,.slice ra r.length rc,.slice pa p.length pc]] w fun e w'=>e=.returned (.tuple #[.string ⟨(bytesC (tn,sq,pv,rt,ct,(lv,ac,o,(k,i,j),r),p)).1.toArray⟩,.int .i64 (bytesC (tn,sq,pv,rt,ct,(lv,ac,o,(k,i,j),r),p)).2])∧Below w.heap.size w w':=by
 have X0:=SBox.new w 35 #[.string ⟨tn.toArray⟩,.int .i64 sq,.string ⟨pv.toArray⟩,.string ⟨rt.toArray⟩,.int .i64 ct,.int .i64 lv,.bool ac,.slice oa o.length oc,.int .i64 k,.int .i64 i,.int .i64 j,.slice ra r.length rc,.slice pa p.length pc]
 have al:Below w.heap.size w (w.alloc (.cells #[.string ⟨tn.toArray⟩,.int .i64 sq,.string ⟨pv.toArray⟩,.string ⟨rt.toArray⟩,.int .i64 ct,.int .i64 lv,.bool ac,.slice oa o.length oc,.int .i64 k,.int .i64 i,.int .i64 j,.slice ra r.length rc,.slice pa p.length pc] 35)):=(Below.refl _ w).alloc (Nat.le_refl _) _
 have c0:(w.alloc (.cells #[.string ⟨tn.toArray⟩,.int .i64 sq,.string ⟨pv.toArray⟩,.string ⟨rt.toArray⟩,.int .i64 ct,.int .i64 lv,.bool ac,.slice oa o.length oc,.int .i64 k,.int .i64 i,.int .i64 j,.slice ra r.length rc,.slice pa p.length pc] 35)).cell? ⟨w.heap.size,0,none⟩=some (.string ⟨tn.toArray⟩):=X0.cell 0 _ rfl
 have c1:(w.alloc (.cells #[.string ⟨tn.toArray⟩,.int .i64 sq,.string ⟨pv.toArray⟩,.string ⟨rt.toArray⟩,.int .i64 ct,.int .i64 lv,.bool ac,.slice oa o.length oc,.int .i64 k,.int .i64 i,.int .i64 j,.slice ra r.length rc,.slice pa p.length pc] 35)).cell? ⟨w.heap.size,1,none⟩=some (.int .i64 sq):=X0.cell 1 _ rfl
 have c2:(w.alloc (.cells #[.string ⟨tn.toArray⟩,.int .i64 sq,.string ⟨pv.toArray⟩,.string ⟨rt.toArray⟩,.int .i64 ct,.int .i64 lv,.bool ac,.slice oa o.length oc,.int .i64 k,.int .i64 i,.int .i64 j,.slice ra r.length rc,.slice pa p.length pc] 35)).cell? ⟨w.heap.size,2,none⟩=some (.string ⟨pv.toArray⟩):=X0.cell 2 _ rfl
 have c3:(w.alloc (.cells #[.string ⟨tn.toArray⟩,.int .i64 sq,.string ⟨pv.toArray⟩,.string ⟨rt.toArray⟩,.int .i64 ct,.int .i64 lv,.bool ac,.slice oa o.length oc,.int .i64 k,.int .i64 i,.int .i64 j,.slice ra r.length rc,.slice pa p.length pc] 35)).cell? ⟨w.heap.size,3,none⟩=some (.string ⟨rt.toArray⟩):=X0.cell 3 _ rfl
 have c4:(w.alloc (.cells #[.string ⟨tn.toArray⟩,.int .i64 sq,.string ⟨pv.toArray⟩,.string ⟨rt.toArray⟩,.int .i64 ct,.int .i64 lv,.bool ac,.slice oa o.length oc,.int .i64 k,.int .i64 i,.int .i64 j,.slice ra r.length rc,.slice pa p.length pc] 35)).cell? ⟨w.heap.size,4,none⟩=some (.int .i64 ct):=X0.cell 4 _ rfl
 have c5:(w.alloc (.cells #[.string ⟨tn.toArray⟩,.int .i64 sq,.string ⟨pv.toArray⟩,.string ⟨rt.toArray⟩,.int .i64 ct,.int .i64 lv,.bool ac,.slice oa o.length oc,.int .i64 k,.int .i64 i,.int .i64 j,.slice ra r.length rc,.slice pa p.length pc] 35)).cell? ⟨w.heap.size,5,none⟩=some (.int .i64 lv):=X0.cell 5 _ rfl
 have c6:(w.alloc (.cells #[.string ⟨tn.toArray⟩,.int .i64 sq,.string ⟨pv.toArray⟩,.string ⟨rt.toArray⟩,.int .i64 ct,.int .i64 lv,.bool ac,.slice oa o.length oc,.int .i64 k,.int .i64 i,.int .i64 j,.slice ra r.length rc,.slice pa p.length pc] 35)).cell? ⟨w.heap.size,6,none⟩=some (.bool ac):=X0.cell 6 _ rfl
 have c7:(w.alloc (.cells #[.string ⟨tn.toArray⟩,.int .i64 sq,.string ⟨pv.toArray⟩,.string ⟨rt.toArray⟩,.int .i64 ct,.int .i64 lv,.bool ac,.slice oa o.length oc,.int .i64 k,.int .i64 i,.int .i64 j,.slice ra r.length rc,.slice pa p.length pc] 35)).cell? ⟨w.heap.size,7,none⟩=some (.slice oa o.length oc):=X0.cell 7 _ rfl
 have c8:(w.alloc (.cells #[.string ⟨tn.toArray⟩,.int .i64 sq,.string ⟨pv.toArray⟩,.string ⟨rt.toArray⟩,.int .i64 ct,.int .i64 lv,.bool ac,.slice oa o.length oc,.int .i64 k,.int .i64 i,.int .i64 j,.slice ra r.length rc,.slice pa p.length pc] 35)).cell? ⟨w.heap.size,8,none⟩=some (.int .i64 k):=X0.cell 8 _ rfl
 have c9:(w.alloc (.cells #[.string ⟨tn.toArray⟩,.int .i64 sq,.string ⟨pv.toArray⟩,.string ⟨rt.toArray⟩,.int .i64 ct,.int .i64 lv,.bool ac,.slice oa o.length oc,.int .i64 k,.int .i64 i,.int .i64 j,.slice ra r.length rc,.slice pa p.length pc] 35)).cell? ⟨w.heap.size,9,none⟩=some (.int .i64 i):=X0.cell 9 _ rfl
 have c10:(w.alloc (.cells #[.string ⟨tn.toArray⟩,.int .i64 sq,.string ⟨pv.toArray⟩,.string ⟨rt.toArray⟩,.int .i64 ct,.int .i64 lv,.bool ac,.slice oa o.length oc,.int .i64 k,.int .i64 i,.int .i64 j,.slice ra r.length rc,.slice pa p.length pc] 35)).cell? ⟨w.heap.size,10,none⟩=some (.int .i64 j):=X0.cell 10 _ rfl
 have c11:(w.alloc (.cells #[.string ⟨tn.toArray⟩,.int .i64 sq,.string ⟨pv.toArray⟩,.string ⟨rt.toArray⟩,.int .i64 ct,.int .i64 lv,.bool ac,.slice oa o.length oc,.int .i64 k,.int .i64 i,.int .i64 j,.slice ra r.length rc,.slice pa p.length pc] 35)).cell? ⟨w.heap.size,11,none⟩=some (.slice ra r.length rc):=X0.cell 11 _ rfl
 have c12:(w.alloc (.cells #[.string ⟨tn.toArray⟩,.int .i64 sq,.string ⟨pv.toArray⟩,.string ⟨rt.toArray⟩,.int .i64 ct,.int .i64 lv,.bool ac,.slice oa o.length oc,.int .i64 k,.int .i64 i,.int .i64 j,.slice ra r.length rc,.slice pa p.length pc] 35)).cell? ⟨w.heap.size,12,none⟩=some (.slice pa p.length pc):=X0.cell 12 _ rfl
 by_cases hm:mayC (tn,sq,pv,rt,ct,(lv,ac,o,(k,i,j),r),p)
 ·have HE:Hid (bytesC (tn,sq,pv,rt,ct,(lv,ac,o,(k,i,j),r),p)=(bytC (tn,sq,pv,rt,ct,(lv,ac,o,(k,i,j),r),p),0)):=by show _=_;unfold bytesC;rw [if_pos hm]
  have HM:Hid (mayC (tn,sq,pv,rt,ct,(lv,ac,o,(k,i,j),r),p)):=hm
  have D:=pmayc14 tn sq pv rt ct lv k i j ac oa oc o ra rc r pa pc p
  rw [HE.out]
  have HNE:Hid (bytC (tn,sq,pv,rt,ct,(lv,ac,o,(k,i,j),r),p)≠[]):=by
   intro h9
   have h8:=congrArg List.length h9
   have h7:1≤tn.length:=hm.1.1.1
   unfold bytC txtE at h8
   simp only [List.length_append,List.length_nil] at h8
   omega
  simp only [decide_eq_true hm] at D
  clear hm
  generalize hANS:bytC (tn,sq,pv,rt,ct,(lv,ac,o,(k,i,j),r),p)=ANS at *
  go_enter Tryz.func18,Tryz.ntmps18
  go_wp2_with fail
  refine (D _ (hO.below al) (hR.below al) (hP.below al)).mono ?_
  rintro e w1 ⟨rfl,b1⟩
  have X1:=X0.below b1
  have B1:=bel_trans al b1
  have X2:=X1.alloc (.cells #[.pointer none,.slice none 0 0] TW)
  have A2:Below w1.heap.size w1 (w1.alloc (.cells #[.pointer none,.slice none 0 0] TW)):=(Below.refl _ w1).alloc (Nat.le_refl _) _
  have B2:=bel_trans B1 A2
  have N2:=bldW_new w1
  have d0:(w1.alloc (.cells #[.pointer none,.slice none 0 0] TW)).cell? ⟨w.heap.size,0,none⟩=some (.string ⟨tn.toArray⟩):=X2.cell 0 _ rfl
  have d1:(w1.alloc (.cells #[.pointer none,.slice none 0 0] TW)).cell? ⟨w.heap.size,1,none⟩=some (.int .i64 sq):=X2.cell 1 _ rfl
  have d2:(w1.alloc (.cells #[.pointer none,.slice none 0 0] TW)).cell? ⟨w.heap.size,2,none⟩=some (.string ⟨pv.toArray⟩):=X2.cell 2 _ rfl
  have d3:(w1.alloc (.cells #[.pointer none,.slice none 0 0] TW)).cell? ⟨w.heap.size,3,none⟩=some (.string ⟨rt.toArray⟩):=X2.cell 3 _ rfl
  have d4:(w1.alloc (.cells #[.pointer none,.slice none 0 0] TW)).cell? ⟨w.heap.size,4,none⟩=some (.int .i64 ct):=X2.cell 4 _ rfl
  have d5:(w1.alloc (.cells #[.pointer none,.slice none 0 0] TW)).cell? ⟨w.heap.size,5,none⟩=some (.int .i64 lv):=X2.cell 5 _ rfl
  have d6:(w1.alloc (.cells #[.pointer none,.slice none 0 0] TW)).cell? ⟨w.heap.size,6,none⟩=some (.bool ac):=X2.cell 6 _ rfl
  have d7:(w1.alloc (.cells #[.pointer none,.slice none 0 0] TW)).cell? ⟨w.heap.size,7,none⟩=some (.slice oa o.length oc):=X2.cell 7 _ rfl
  have d8:(w1.alloc (.cells #[.pointer none,.slice none 0 0] TW)).cell? ⟨w.heap.size,8,none⟩=some (.int .i64 k):=X2.cell 8 _ rfl
  have d9:(w1.alloc (.cells #[.pointer none,.slice none 0 0] TW)).cell? ⟨w.heap.size,9,none⟩=some (.int .i64 i):=X2.cell 9 _ rfl
  have d10:(w1.alloc (.cells #[.pointer none,.slice none 0 0] TW)).cell? ⟨w.heap.size,10,none⟩=some (.int .i64 j):=X2.cell 10 _ rfl
  have d11:(w1.alloc (.cells #[.pointer none,.slice none 0 0] TW)).cell? ⟨w.heap.size,11,none⟩=some (.slice ra r.length rc):=X2.cell 11 _ rfl
  have d12:(w1.alloc (.cells #[.pointer none,.slice none 0 0] TW)).cell? ⟨w.heap.size,12,none⟩=some (.slice pa p.length pc):=X2.cell 12 _ rfl
  have hs1:=B1.size
  clear D
  go_wp2_with fail
  refine (pcertw14 w1.heap.size w1.heap.size tn sq pv rt ct lv k i j ac oa oc o ra rc r pa pc p w1 _ (hO.below B1) (hR.below B1) (hP.below B1) A2 N2 rfl HM.out).mono ?_
  rintro e w3 ⟨rfl,W3,f3⟩
  rw [hANS] at W3
  clear hANS
  go_wp2_with fail
  refine (stringW w1.heap.size w1.heap.size ANS w3 W3 HNE.out).mono ?_
  rintro e w4 ⟨rfl,b4⟩
  go_wp2_with fail
  go_ret2
  exact ⟨rfl,B2.trans ((f3.bel.trans b4).mono hs1)⟩
 ·have HE:Hid (bytesC (tn,sq,pv,rt,ct,(lv,ac,o,(k,i,j),r),p)=([],1)):=by show _=_;unfold bytesC;rw [if_neg hm]
  have D:=pmayc14 tn sq pv rt ct lv k i j ac oa oc o ra rc r pa pc p
  rw [HE.out]
  simp only [decide_eq_false hm] at D
  clear hm
  go_enter Tryz.func18,Tryz.ntmps18
  go_wp2_with fail
  refine (D _ (hO.below al) (hR.below al) (hP.below al)).mono ?_
  rintro e w1 ⟨rfl,b1⟩
  go_wp2_with fail
  go_ret2
  exact ⟨rfl,bel_trans al b1⟩
end Go.Proofs.YtkkenfhlgpjmjaaGreatDoor
