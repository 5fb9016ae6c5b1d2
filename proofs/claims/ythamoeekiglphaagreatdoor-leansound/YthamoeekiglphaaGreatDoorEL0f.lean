/-
  What event.within, texts and May answer. What lump.length answers. What lump.Text answers, at whatever text. What event.Bytes, and the closure that it makes, an
-/
import Derived.Test.YthamoeekiglphaaGreatDoorEL0e
namespace Go.Proofs.YthamoeekiglphaaGreatDoor
set_option maxRecDepth 100000
open Go.RowKit
set_option linter.unusedVariables false
attribute [local go_sem] ba_size
theorem pwithin_any (t:List UInt8) (lo hi:Int) (w:World) :
 Calls Tryz.prog 108 #[.string ⟨t.toArray⟩,.int .i64 lo,.int .i64 hi] w fun e w'=>e=.returned (.bool (decide (lo≤(t.length:Int)∧(t.length:Int)≤hi)))∧Below w.heap.size w w':=by
 by_cases c1:lo≤(t.length:Int)
 ·have d1:¬ (t.length:Int) < lo:=by omega
  by_cases c2:(t.length:Int)≤hi
  ·rw [decide_eq_true (show _∧_ from ⟨c1,c2⟩)]
   go_enter Tryz.func108,Tryz.ntmps108
   go_wp2_with fail
   go_ret
   exact ⟨rfl,Below.refl _ _⟩
  ·rw [decide_eq_false (show ¬ (_∧_) from fun h=>c2 h.2)]
   go_enter Tryz.func108,Tryz.ntmps108
   go_wp2_with fail
   go_ret
   exact ⟨rfl,Below.refl _ _⟩
 ·have d1:(t.length:Int) < lo:=by omega
  rw [decide_eq_false (show ¬ (_∧_) from fun h=>c1 h.1)];go_enter Tryz.func108,Tryz.ntmps108
  go_wp2_with fail
  go_ret
  exact ⟨rfl,Below.refl _ _⟩
theorem ptexts2 (w:World):Calls Tryz.prog 76 #[.int .i64 2] w fun e w'=>e=.returned (.tuple #[.bool true,.int .i64 0])∧Below w.heap.size w w':=by
 go_enter Tryz.func76,Tryz.ntmps76
 go_wp2_with fail
 go_ret2
 exact ⟨rfl,Below.refl _ _⟩
theorem ptexts3 (w:World):Calls Tryz.prog 76 #[.int .i64 3] w fun e w'=>e=.returned (.tuple #[.bool true,.int .i64 1])∧Below w.heap.size w w':=by
 go_enter Tryz.func76,Tryz.ntmps76
 go_wp2_with fail
 go_ret2
 exact ⟨rfl,Below.refl _ _⟩
theorem ptextsN (k:Int) (h:¬ (k=2∨k=3)) (w:World):Calls Tryz.prog 76 #[.int .i64 k] w fun e w'=>e=.returned (.tuple #[.bool false,.int .i64 0])∧Below w.heap.size w w':=by
 have q1:(k==2)=false:=by rw [beq_eq_false_iff_ne];exact fun h'=>h (Or.inl h')
 have q2:(k==3)=false:=by rw [beq_eq_false_iff_ne];exact fun h'=>h (Or.inr h')
 clear h;go_enter Tryz.func76,Tryz.ntmps76
 go_wp2_with fail
 go_ret2
 exact ⟨rfl,Below.refl _ _⟩
theorem ptexts_key (k:Int) (h:k=2∨k=3) (w:World):Calls Tryz.prog 76 #[.int .i64 k] w fun e w'=>e=.returned (.tuple #[.bool true,.int .i64 (if k=2 then 0 else 1)])∧Below w.heap.size w w':=by
 rcases h with rfl | rfl
 ·exact ptexts2 w
 ·exact ptexts3 w
set_option maxHeartbeats 1000000 in
theorem pmay_any (k t:Int) (a b:List UInt8) (w:World) :
 Calls Tryz.prog 73 #[.agg #[.int .i64 k,.int .i64 t,.string ⟨a.toArray⟩,.string ⟨b.toArray⟩]] w fun e w'=>e=.returned (.bool (decide (mayE (k,t,a,b))))∧Below w.heap.size w w':=by
 have al:∀ o,Below w.heap.size w (w.alloc o):=fun o=>(Below.refl _ w).alloc (Nat.le_refl _) o
 by_cases c0:k < 1
 ·rw [decide_eq_false (show ¬ mayE _ from fun h=>by have h:=mayE_range h;omega)]
  go_enter Tryz.func73,Tryz.ntmps73
  go_wp2_with fail
  go_ret
  exact ⟨rfl,al _⟩
 ·have c0':¬ k < 1:=c0
  by_cases c1:5 < k
  ·rw [decide_eq_false (show ¬ mayE _ from fun h=>by have h:=mayE_range h;omega)]
   go_enter Tryz.func73,Tryz.ntmps73
   go_wp2_with fail
   go_ret
   exact ⟨rfl,al _⟩
  ·have c1':¬ 5 < k:=c1
   by_cases c2:t < 1
   ·rw [decide_eq_false (show ¬ mayE _ from fun h=>by have h:=mayE_range h;omega)]
    go_enter Tryz.func73,Tryz.ntmps73
    go_wp2_with fail
    go_ret
    exact ⟨rfl,al _⟩
   ·have c2':¬ t < 1:=c2
    by_cases c3:32 < t
    ·rw [decide_eq_false (show ¬ mayE _ from fun h=>by have h:=mayE_range h;omega)]
     go_enter Tryz.func73,Tryz.ntmps73
     go_wp2_with fail
     go_ret
     exact ⟨rfl,al _⟩
    ·have c3':¬ 32 < t:=c3
     by_cases u1:k=2∨k=3
     ·have T:=fun W=>ptexts_key k u1 W
      obtain ⟨m,hm⟩:∃ m:Int,(if k=2 then 0 else 1:Int)=m:=⟨_,rfl⟩;rw [hm] at T
      have HM:Hid (decide (mayE (k,t,a,b))=decide (((1:Int)≤(a.length:Int)∧(a.length:Int)≤32)∧(m≤(b.length:Int)∧(b.length:Int)≤32))):=by
       show _=_;rw [decide_eq_decide,mayE_key u1];rcases u1 with rfl | rfl
       ·rw [if_pos rfl] at hm;subst hm;omega
       ·rw [if_neg (by omega)] at hm;subst hm;omega
      rw [HM.out];clear u1 hm HM;have W1:=fun W=>pwithin_any a 1 32 W
      have W2:=fun W=>pwithin_any b m 32 W
      by_cases d1:(1:Int)≤(a.length:Int)∧(a.length:Int)≤32
      ·rw [decide_eq_true d1] at W1
       obtain ⟨v,hv⟩:∃ v,decide (m≤(b.length:Int)∧(b.length:Int)≤32)=v:=⟨_,rfl⟩
       have HV:Hid (decide (((1:Int)≤(a.length:Int)∧(a.length:Int)≤32)∧(m≤(b.length:Int)∧(b.length:Int)≤32))=v):=by
        show _=_;rw [← hv,decide_eq_decide];exact ⟨fun h=>h.2,fun h=>⟨d1,h⟩⟩
       rw [HV.out];rw [hv] at W2;clear hv HV d1;have HW1:Hid (∀ W,Calls Tryz.prog 108 #[.string ⟨a.toArray⟩,.int .i64 1,.int .i64 32] W fun e w'=>e=.returned (.bool true)∧Below W.heap.size W w'):=W1;have HW2:Hid (∀ W,Calls Tryz.prog 108 #[.string ⟨b.toArray⟩,.int .i64 m,.int .i64 32] W fun e w'=>e=.returned (.bool v)∧Below W.heap.size W w'):=W2;clear W1 W2;go_enter Tryz.func73,Tryz.ntmps73
       go_wp2_with fail
       refine (T _).mono ?_;rintro e w1 ⟨rfl,b1⟩;have x2:=box_cell b1 2 _ rfl;go_wp2_with fail
       refine (HW1.out _).mono ?_;rintro e w2 ⟨rfl,b2⟩;have b2':=bel_trans b1 b2;have x3:=box_cell b2' 3 _ rfl;go_wp2_with fail
       refine (HW2.out _).mono ?_;rintro e w3 ⟨rfl,b3⟩;go_wp2_with fail
       go_ret
       exact ⟨rfl,bel_trans (al _) (bel_trans b2' b3)⟩
      ·rw [decide_eq_false d1] at W1
       rw [decide_eq_false (show ¬ (_∧_) from fun h=>d1 h.1)];have HW1:Hid (∀ W,Calls Tryz.prog 108 #[.string ⟨a.toArray⟩,.int .i64 1,.int .i64 32] W fun e w'=>e=.returned (.bool false)∧Below W.heap.size W w'):=W1;clear d1 W1 W2;go_enter Tryz.func73,Tryz.ntmps73
       go_wp2_with fail
       refine (T _).mono ?_;rintro e w1 ⟨rfl,b1⟩;have x2:=box_cell b1 2 _ rfl;go_wp2_with fail
       refine (HW1.out _).mono ?_;rintro e w2 ⟨rfl,b2⟩;have b2':=bel_trans b1 b2;go_wp2_with fail
       go_ret
       exact ⟨rfl,bel_trans (al _) b2'⟩
     ·have T:=fun W=>ptextsN k u1 W
      have HM:Hid (decide (mayE (k,t,a,b))=decide (a=[]∧b=[])):=by
       show _=_;rw [decide_eq_decide,mayE_unkey u1];exact ⟨fun h=>h.2,fun h=>⟨by omega,h⟩⟩
      rw [HM.out];clear u1 HM;cases a with
      | nil =>
        cases b with
        | nil =>
          go_enter Tryz.func73,Tryz.ntmps73
          go_wp2_with fail
          refine (T _).mono ?_;rintro e w1 ⟨rfl,b1⟩;have x2:=box_cell b1 2 _ rfl;have x3:=box_cell b1 3 _ rfl;go_wp2_with fail
          go_ret
          exact ⟨rfl,bel_trans (al _) b1⟩
        | cons y r =>
          rw [decide_eq_false (show ¬ (_∧_) from fun h=>by cases h.2)];obtain ⟨b,hb⟩:∃ b,y::r=b:=⟨_,rfl⟩;have q:=ne_empty' b (by rw [← hb];simp);rw [hb];clear hb;go_enter Tryz.func73,Tryz.ntmps73
          go_wp2_with fail
          refine (T _).mono ?_;rintro e w1 ⟨rfl,b1⟩;have x2:=box_cell b1 2 _ rfl;have x3:=box_cell b1 3 _ rfl;go_wp2_with fail
          go_ret
          exact ⟨rfl,bel_trans (al _) b1⟩
      | cons x r =>
        rw [decide_eq_false (show ¬ (_∧_) from fun h=>by cases h.1)];obtain ⟨a,ha⟩:∃ a,x::r=a:=⟨_,rfl⟩;have q:=ne_empty' a (by rw [← ha];simp);rw [ha];clear ha;go_enter Tryz.func73,Tryz.ntmps73
        go_wp2_with fail
        refine (T _).mono ?_;rintro e w1 ⟨rfl,b1⟩;have x2:=box_cell b1 2 _ rfl;go_wp2_with fail
        go_ret
        exact ⟨rfl,bel_trans (al _) b1⟩
attribute [local go_sem] ba_size ba_get ba_extract ba_append wrap_byte wrap_u64_byte take_drop_end
theorem slice75 (w:World) (b m:Nat) (hm:m < 3) :
 (Instr.sliceAt 177 (.pointer (some ⟨b,0,none⟩)) (some (.int .i64 (m:Int))) none none).run Tryz.prog w=.ok (.slice (some ⟨b,m,none⟩) (3 - m) (3 - m)) w:=by
 have hl:Tryz.prog.arrayLen 177=3:=by kernel_rfl
 have hz:∀ w,(Go.sizeOf (Tryz.prog.elem 177)).run Tryz.prog w=.ok 1 w:=fun w=>by kernel_rfl
 rw [run_sliceAt_array_l w 177 ⟨b,0,none⟩ (by kernel_rfl) .i64 m (by omega) (by rw [hl];omega),hl,hz];simp only [Result.andThen,slicedAt,Int.toNat_natCast];rw [if_neg (by omega)];unfold Addr.add;split<;>simp_all
set_option maxHeartbeats 400000 in
theorem length_any (n:Nat) (hn:n≤65535) (w:World) :
 Calls Tryz.prog 109 #[.int .i64 n] w fun e w'=>e=.returned (.string ⟨(Lm.lenL n).toArray⟩)∧Below w.heap.size w w':=by
 have s0:=fun W b=>slice75 W b 0 (by omega)
 have s2:=fun W b=>slice75 W b 2 (by omega)
 have c1:=conv3_1;have c3:=conv3;simp only [Int.natCast_zero,Nat.sub_zero] at s0;simp only [Nat.reduceSub] at s2
 by_cases h:n≤250
 ·go_enter Tryz.func109,Tryz.ntmps109
  go_wp2
  go_ret
  exact ⟨ret_str (nums_short n h),(Below.refl _ _).alloc (Nat.le_refl _) _⟩
 ·go_enter Tryz.func109,Tryz.ntmps109
  go_wp2
  go_ret
  exact ⟨ret_str (nums_long n h),(Below.refl _ _).alloc (Nat.le_refl _) _⟩
set_option maxHeartbeats 400000 in
theorem text_any (l:List UInt8) (hl:l.length≤9223372036854775807) (w:World) :
 Calls Tryz.prog 75 #[.string ⟨l.toArray⟩] w fun e w'=>e=.returned (.tuple #[.string ⟨(Lm.textL l).1.toArray⟩,.int .i64 ((Lm.textL l).2:Int)])∧Below w.heap.size w w':=by
 unfold Lm.textL
 by_cases h:65535 < l.length
 ·rw [if_pos h]
  go_enter Tryz.func75,Tryz.ntmps75
  go_wp2
  go_ret2
  exact ⟨rfl,Below.refl _ _⟩
 ·rw [if_neg h]
  go_enter Tryz.func75,Tryz.ntmps75
  go_wp2_with fail
  refine (length_any l.length (by omega) _).mono ?_;rintro e w1 ⟨rfl,hb1⟩;have hll:=Lm.lenL_le l.length;go_wp2_with fail
  go_ret2
  exact ⟨rfl,hb1⟩
theorem text_ok (l:List UInt8) (h:¬ 65535 < l.length) (w:World) :
 Calls Tryz.prog 75 #[.string ⟨l.toArray⟩] w fun e w'=>e=.returned (.tuple #[.string ⟨(Lm.lenL l.length++l).toArray⟩,.int .i64 0])∧Below w.heap.size w w':=by
 have:=text_any l (by omega) w;unfold Lm.textL at this;rw [if_neg h] at this;exact this
end Go.Proofs.YthamoeekiglphaaGreatDoor
namespace Go.Proofs.YthamoeekiglphaaGreatDoor
set_option maxRecDepth 100000
open Go.RowKit
set_option linter.unusedVariables false
attribute [local go_sem] ba_size ba_append
theorem grownT {a b c:World} {x:Option Nat} (h:a.grownBy b x) (k:b.grownBy c x):a.grownBy c x :=
 ⟨k.os.trans h.os,k.tape.trans h.tape,k.output.trans h.output,Nat.le_trans h.size k.size,fun i hi hne=>(k.block i (Nat.lt_of_lt_of_le hi h.size) hne).trans (h.block i hi hne)⟩
theorem grownB {a b:World} (x:Option Nat) (h:Below a.heap.size a b):a.grownBy b x:=⟨h.os,h.tape,h.output,h.size,fun i hi _=>h.block i hi⟩
theorem play_any (t s:List UInt8) (ht:¬ 65535 < t.length) (hs:s.length≤9223372036854000000) (W:World) (g:Nat) (hx:Boxed W g 9 (.string ⟨s.toArray⟩)) :
 Calls Tryz.prog 74 #[.string ⟨t.toArray⟩,.pointer (some ⟨g,0,none⟩)] W fun e W'=>e=.returned (.tuple #[])∧W.grownBy W' (some g)∧Boxed W' g 9 (.string ⟨(s++(Lm.lenL t.length++t)).toArray⟩):=by
 have T1:=text_ok t ht W;have l1:=Lm.lenL_le t.length;have z1:(Lm.lenL t.length++t).length≤65538:=by rw [List.length_append];omega
 obtain ⟨x,hX⟩:∃ x,Lm.lenL t.length++t=x:=⟨_,rfl⟩;rw [hX] at T1 z1 ⊢;clear hX l1;have z3:s.length+x.length≤9223372036854775807:=by omega
 go_enter Tryz.func74,Tryz.ntmps74
 go_wp2_with fail
 refine T1.mono ?_;rintro e w1 ⟨rfl,b1⟩;have hx1:Boxed w1 g 9 (.string ⟨s.toArray⟩):=boxed_below hx b1;have d1:=hx1.cell;have d2:=hx1.frozen;go_wp2_with fail
 go_end0
 exact ⟨rfl,grownT (grownB (some g) b1) (grownBy_setCell' _ _ _),hx1.set _⟩
theorem SBox.grown {w w':World} {g x:Nat} {t:TypeId} {cs:Array Value} (h:SBox w g t cs) (k:w.grownBy w' (some x)) (hne:g≠x):SBox w' g t cs:=(k.block g h.lt (by simpa using hne)).trans h
set_option maxHeartbeats 1000000 in
theorem pbytes6_any (k t:Int) (a b:List UInt8) (w:World) :
 Calls Tryz.prog 34 #[evA (k,t,a,b)] w fun e w'=>e=.returned (.tuple #[.string ⟨(bytesE (k,t,a,b)).1.toArray⟩,.int .i64 ((bytesE (k,t,a,b)).2:Int)])∧Below w.heap.size w w':=by
 have al:∀ o,Below w.heap.size w (w.alloc o):=fun o=>(Below.refl _ w).alloc (Nat.le_refl _) o
 have M:Hid (∀ W,Calls Tryz.prog 73 #[.agg #[.int .i64 k,.int .i64 t,.string ⟨a.toArray⟩,.string ⟨b.toArray⟩]] W fun e w'=>e=.returned (.bool (decide (mayE (k,t,a,b))))∧Below W.heap.size W w'):=fun W=>pmay_any k t a b W
 have X0:=SBox.new w 53 #[.int .i64 k,.int .i64 t,.string ⟨a.toArray⟩,.string ⟨b.toArray⟩];have c2:=conv2
 by_cases hm:mayE (k,t,a,b)
 ·rw [decide_eq_true hm] at M
  rw [bytesE_ok _ hm];obtain ⟨⟨k1,k2,t1,t2⟩,hr⟩:=hm;simp only at k1 k2 t1 t2 hr;have u1:IntKind.u8.wrap k=k:=by rw [IntKind.wrap_u8];omega
  have u2:IntKind.u8.wrap t=t:=by rw [IntKind.wrap_u8];omega
  by_cases hk:keyedE k
  ·rw [if_pos hk] at hr
   have HE:Hid (bytE (k,t,a,b)=[UInt8.ofNat k.toNat,UInt8.ofNat t.toNat]++(Lm.lenL a.length++a)++(Lm.lenL b.length++b)):=by
    show _=_;unfold bytE txtE;simp only;rw [if_pos hk];simp
   have T:=fun W=>ptexts_key k hk W
   have l1:=Lm.lenL_le a.length;have PL1:Hid (∀ W g,Boxed W g 9 (.string ⟨[UInt8.ofNat k.toNat,UInt8.ofNat t.toNat].toArray⟩)→_):=fun W g h=>play_any a [UInt8.ofNat k.toNat,UInt8.ofNat t.toNat] (by omega) (by simp) W g h
   have PL2:Hid (∀ W g,Boxed W g 9 (.string ⟨([UInt8.ofNat k.toNat,UInt8.ofNat t.toNat]++(Lm.lenL a.length++a)).toArray⟩)→_):=fun W g h=>play_any b ([UInt8.ofNat k.toNat,UInt8.ofNat t.toNat]++(Lm.lenL a.length++a)) (by omega) (by simp only [List.length_append,List.length_cons,List.length_nil];omega) W g h
   obtain ⟨m,hm⟩:∃ m:Int,(if k=2 then 0 else 1:Int)=m:=⟨_,rfl⟩;rw [hm] at T;obtain ⟨s1,hs1⟩:∃ s,[UInt8.ofNat k.toNat,UInt8.ofNat t.toNat]++(Lm.lenL a.length++a)=s:=⟨_,rfl⟩;rw [hs1] at PL1 PL2 HE;obtain ⟨s2,hs2⟩:∃ s,s1++(Lm.lenL b.length++b)=s:=⟨_,rfl⟩;rw [hs2] at PL2 HE;clear l1 hr hk hm hs1 hs2;rw [HE.out];go_enter Tryz.func34,Tryz.ntmps34
   go_wp2_with fail
   refine (M.out _).mono ?_;rintro e w1 ⟨rfl,b1⟩;have B1:=bel_trans (al _) b1;have X1:=X0.below b1;have x0:=X1.cell 0 _ rfl;have x1:=X1.cell 1 _ rfl;have y0:=fun o=>(X1.alloc o).cell 0 _ rfl
   have y1:=fun o=>(X1.alloc o).cell 1 _ rfl
   have y00:=fun o o'=>((X1.alloc o).alloc o').cell 0 _ rfl
   go_wp2_with fail
   refine (T _).mono ?_;rintro e w2 ⟨rfl,b2⟩;have X2:=((X1.alloc _).alloc _).below b2;have S2:=boxed_below (Boxed.new _ _ _) b2;have B1':=B1.alloc B1.size (.cells #[.int .u8 k,.int .u8 t] 5);have B2:=bel_trans (B1'.alloc B1'.size _) b2;rw [World.size_alloc] at S2;have z2:=X2.cell 2 _ rfl;have h12:=B1.size;go_wp2_with fail
   refine (PL1.out _ _ S2).mono ?_;rintro e w3 ⟨rfl,g3,S3⟩;have hlt:w.heap.size < w1.heap.size:=X1.lt;have X3:=X2.grown g3 (by omega);have z3:=X3.cell 3 _ rfl;have B3:Below w.heap.size w w3:=B2.grown g3 B2.size (fun k h=>by cases h;omega);go_wp2_with fail
   refine (PL2.out _ _ S3).mono ?_;rintro e w4 ⟨rfl,g4,S4⟩;have B4:Below w.heap.size w w4:=B3.grown g4 B3.size (fun k h=>by cases h;omega);have s4:=S4.cell;go_wp2_with fail
   go_ret2
   exact ⟨rfl,B4⟩
  ·rw [if_neg hk] at hr
   obtain ⟨rfl,rfl⟩:=hr
   have HE:Hid (bytE (k,t,[],[])=[UInt8.ofNat k.toNat,UInt8.ofNat t.toNat]):=by
    show _=_;unfold bytE;simp only;rw [if_neg hk]
   rw [HE.out];have T:=fun W=>ptextsN k hk W
   clear hk;go_enter Tryz.func34,Tryz.ntmps34
   go_wp2_with fail
   refine (M.out _).mono ?_;rintro e w1 ⟨rfl,b1⟩;have B1:=bel_trans (al _) b1;have X1:=X0.below b1;have x0:=X1.cell 0 _ rfl;have x1:=X1.cell 1 _ rfl;have y0:=fun o=>(X1.alloc o).cell 0 _ rfl
   have y1:=fun o=>(X1.alloc o).cell 1 _ rfl
   have y00:=fun o o'=>((X1.alloc o).alloc o').cell 0 _ rfl
   go_wp2_with fail
   refine (T _).mono ?_;rintro e w2 ⟨rfl,b2⟩;have S2:=boxed_below (Boxed.new _ _ _) b2;have B1':=B1.alloc B1.size (.cells #[.int .u8 k,.int .u8 t] 5);have B2:=bel_trans (B1'.alloc B1'.size _) b2;rw [World.size_alloc] at S2;have s2:=S2.cell;go_wp2_with fail
   go_ret2
   exact ⟨rfl,B2⟩
 ·rw [decide_eq_false hm] at M
  rw [bytesE_no _ hm];clear hm;go_enter Tryz.func34,Tryz.ntmps34
  go_wp2_with fail
  refine (M.out _).mono ?_;rintro e w1 ⟨rfl,b1⟩;have B1:=bel_trans (al _) b1;go_wp2_with fail
  go_ret2
  exact ⟨rfl,B1⟩
end Go.Proofs.YthamoeekiglphaaGreatDoor
namespace Go.Proofs.YthamoeekiglphaaGreatDoor
set_option maxRecDepth 100000
open Go.RowKit
def nine (v k:Nat):List Int:=List.replicate (9 - k) 0++(Lm.low k v).map (fun b=>(b.toNat:Int))
def nineA (v k:Nat):Array Value:=((nine v k).map (Value.int .u8)).toArray
theorem nine_at (v k j:Nat) (h:j < 9 - k):(nineA v k)[j]?=some (.int .u8 0):=by
 simp [nineA,nine,List.getElem?_append,h]
theorem nine_set (v k:Nat) (h:k < 9) (x:Int):(nine v k).set (8 - k) x=List.replicate (8 - k) 0++x::(Lm.low k v).map (fun b=>(b.toNat:Int)):=by
 unfold nine;rw [show 9 - k=8 - k+1 from by omega,List.replicate_succ',List.append_assoc,List.set_append_right _ _ (by simp)];simp
theorem nineA_set (v k m:Nat) (h:m+k=8) (x:Int):(nineA v k).setIfInBounds m (.int .u8 x)=((List.replicate m (0:Int)++x::(Lm.low k v).map (fun b:UInt8=>(b.toNat:Int))).map (Value.int .u8)).toArray:=by
 obtain rfl:m=8 - k:=by omega
 rw [← nine_set v k (by omega) x];simp [nineA]
theorem nineA_next (v k m:Nat) (h:m+1+k=8):(nineA v k).setIfInBounds (m+1) (.int .u8 (((v / 256 ^ k:Nat):Int) % 256))=nineA v (k+1):=by
 rw [nineA_set v k (m+1) h];unfold nineA nine;rw [show 9 - (k+1)=m+1 from by omega,Lm.low]
 congr 3
theorem row_cells (w:World) (m:Nat) (xs:List Int) (t:TypeId) (i:Nat) (hi:i < xs.length) :
 (w.alloc (.cells ((List.replicate m (0:Int)++xs).map (Value.int .u8)).toArray t)).cell? ⟨w.heap.size,m+i,none⟩=some (.int .u8 (xs.getD i 0)):=by
 rw [World.cell?_alloc_new];simp [hi]
theorem slice60 (w:World) (b m:Nat) (hm:m < 9) :
 (Instr.sliceAt 202 (.pointer (some ⟨b,0,none⟩)) (some (.int .i64 (m:Int))) none none).run Tryz.prog w=.ok (.slice (some ⟨b,m,none⟩) (9 - m) (9 - m)) w:=by
 have hl:Tryz.prog.arrayLen 202=9:=by kernel_rfl
 have hz:∀ w,(Go.sizeOf (Tryz.prog.elem 202)).run Tryz.prog w=.ok 1 w:=fun w=>by kernel_rfl
 rw [run_sliceAt_array_l w 202 ⟨b,0,none⟩ (by kernel_rfl) .i64 m (by omega) (by rw [hl];omega),hl,hz];simp only [Result.andThen,slicedAt,Int.toNat_natCast];rw [if_neg (by omega)];unfold Addr.add;split<;>simp_all
set_option maxHeartbeats 400000 in
theorem num_any (v:Nat) (hv:v < 18446744073709551616) (w:World) :
 Calls Tryz.prog 141 #[.int .u64 v] w fun e w'=>e=.returned (.string ⟨(Lm.numL v).toArray⟩)∧Below w.heap.size w w':=by
 go_enter Tryz.func141,Tryz.ntmps141
 go_wp2
 go_loopw [0,4] (fun a i wr=>∃ m k:Nat,m+k=8∧a=.int .u64 ((v / 256 ^ k:Nat):Int)∧i=.int .i64 ((m:Int)+1)∧(k=0∨0 < v / 256 ^ (k - 1))∧wr=w.alloc (.cells (nineA v k) 202))
  (fun _ i _=>(RowKit.intOf i).toNat)
 case atStart=>exact ⟨8,0,rfl,by simp,rfl,.inl rfl,rfl⟩
 case round =>
  obtain ⟨m,k,hmk,rfl,rfl,hk,rfl⟩:=hrel
  by_cases hlt:0 < v / 256 ^ k
  ·have hk8:=Lm.loop_le v k (by omega) hlt
   obtain ⟨m,rfl⟩:∃ m',m=m'+1:=⟨m - 1,by omega⟩;have hc:=nine_at v k (m+1) (by omega);have hx:((v / 256 ^ k:Nat):Int) < 18446744073709551616:=by have:=Nat.div_le_self v (256 ^ k);omega
   have hN:=nineA_next v k m hmk;have hD:v / 256 ^ (k+1)=v / 256 ^ k / 256:=by rw [Nat.pow_succ,Nat.div_div_eq_div_mul]
   generalize hxx:v / 256 ^ k=x at *;have HN:Hid _:=hN;clear hN;have HD:Hid _:=hD;clear hD;have HX:Hid _:=hxx;clear hxx;go_wp2
   go_roundw
   case rel=>exact ⟨m,k+1,by omega,by rw [HD.out];simp,rfl,.inr (by simpa [HX.out] using hlt),by rw [HN.out]⟩
   case measure=>simp [RowKit.intOf];omega
  ·have hz:v / 256 ^ k=0:=Nat.eq_zero_of_not_pos hlt
   obtain rfl:=Lm.cnt_of_loop v k (by omega) hk hz;have hc:=nine_at v (Lm.cnt v) m (by omega);have hs:=nineA_set v (Lm.cnt v) m hmk (Lm.cnt v);have hkm:(Lm.cnt v:Int)=8 - m:=by omega
   rw [hz]
   have hfin:strOfNums ((Lm.cnt v:Int)::(Lm.low (Lm.cnt v) v).map (fun b:UInt8=>(b.toNat:Int)))=⟨(Lm.numL v).toArray⟩:=by
    simp [strOfNums,Lm.numL,Function.comp_def]
   have HF:Hid _:=hfin;clear hfin;generalize Lm.cnt v=k at *;have HS:Hid _:=hs;clear hs;have HK:Hid _:=hkm;clear hkm;have HZ:Hid _:=hz;clear hz;have hm8:m≤8:=by omega
   have HM:Hid _:=hmk;clear hmk;clear hlt hk;have hsl:=fun w'=>slice60 w' w.heap.size m (by omega)
   have hcv:=run_convert_bytes_arg (P:=Tryz.prog) (w.alloc (Obj.cells ((nineA v k).setIfInBounds m (Value.int IntKind.u8 (9 - (↑m+1)))) 202)) 94 5 (by kernel_rfl) (by kernel_rfl) w.heap.size m (9 - m) (9 - m) ((k:Int)::(Lm.low k v).map (fun b:UInt8=>(b.toNat:Int))) (by have:=HM.out;simp [Lm.low_length];omega)
    (by
     intro i hi;have e:(9 - ((m:Int)+1))=k:=by have:=HM.out;omega
     rw [e,HS.out];exact row_cells w m _ 202 i (by have:=HM.out;simp [Lm.low_length];omega)) 9 (by kernel_rfl)
   go_wp2
   go_ret
   exact ⟨ret_str HF.out,(Below.refl _ _).alloc (Nat.le_refl _) _⟩
set_option linter.unusedVariables false
structure Side (n:Nat) where
 a:Nat
 b:Nat
 r:Bool
 h1:a < b
 h2:b≤n
theorem mid_le (a b:Nat) (h:¬ b - a≤1):a+hf (b - a) < b:=by have:=hf_lt (b - a) (by omega);omega
def sidesS (n a b i:Nat) (h:b≤n):List (Side n) :=
 if h1:b - a≤1 then [] else
  if i < a+hf (b - a) then sidesS n a (a+hf (b - a)) i (by have:=mid_le a b h1;omega)++[⟨a+hf (b - a),b,true,by have:=mid_le a b h1;omega,h⟩]
  else sidesS n (a+hf (b - a)) b i h++[⟨a,a+hf (b - a),false,by have:=hf_pos (b - a);omega,by have:=mid_le a b h1;omega⟩]
 termination_by b - a
 decreasing_by
  ·have:=mid_le a b h1;omega
  ·have:=hf_pos (b - a);omega
theorem sidesS_nil (n a b i:Nat) (h:b≤n) (h1:b - a≤1):sidesS n a b i h=[]:=by rw [sidesS,dif_pos h1]
theorem sidesS_left (n a b i:Nat) (h:b≤n) (h1:¬ b - a≤1) (hi:i < a+hf (b - a)) (h':a+hf (b - a)≤n) (h'':a+hf (b - a) < b):sidesS n a b i h=sidesS n a (a+hf (b - a)) i h'++[⟨a+hf (b - a),b,true,h'',h⟩]:=by
 rw [sidesS,dif_neg h1,if_pos hi]
theorem sidesS_right (n a b i:Nat) (h:b≤n) (h1:¬ b - a≤1) (hi:¬ i < a+hf (b - a)) (h':a < a+hf (b - a)) (h'':a+hf (b - a)≤n):sidesS n a b i h=sidesS n (a+hf (b - a)) b i h++[⟨a,a+hf (b - a),false,h',h''⟩]:=by
 rw [sidesS,dif_neg h1,if_neg hi]
theorem sidesS_le (n:Nat):∀ (d a b i:Nat) (h:b≤n),b - a=d→(sidesS n a b i h).length≤d:=by
 intro d
 induction d using Nat.strongRecOn with
 | _ d ih =>
   intro a b i h hd
   by_cases h1:b - a≤1
   ·rw [sidesS_nil n a b i h h1];simp
   ·have hm:=mid_le a b h1
    have hps:=hf_pos (b - a)
    by_cases hi:i < a+hf (b - a)
    ·rw [sidesS_left n a b i h h1 hi (by omega) (by omega),List.length_append]
     have:=ih (hf (b - a)) (by omega) a (a+hf (b - a)) i (by omega) (by omega);simp only [List.length_cons,List.length_nil];omega
    ·rw [sidesS_right n a b i h h1 hi (by omega) (by omega),List.length_append]
     have:=ih (b - (a+hf (b - a))) (by omega) (a+hf (b - a)) b i h rfl;simp only [List.length_cons,List.length_nil];omega
end Go.Proofs.YthamoeekiglphaaGreatDoor
namespace Go.Proofs.YthamoeekiglphaaGreatDoor
set_option maxRecDepth 100000
open Go.RowKit
set_option linter.unusedVariables false
section
variable {P:Program} {ops:Array Oper} {md:Region.Mode} {Q:Exit→Act→World→Prop}
theorem opW_of {n:Nat} {o:Oper} {a:Act} {w:World} {K:Act→World→Prop} (hnd:∀ c,o.op≠.defer c) (h:o.wp P a w K Q):o.wpIn Fence.wide n P a w K Q:=by
 unfold Oper.wpIn;refine ⟨fun _ _=>trivial,?_⟩;rw [show Fence.wide.round=none from rfl,show Oper.semAt none a.eval o=execOp a.eval o by unfold Oper.semAt;cases ho:o.op<;>first | rfl | exact absurd ho (hnd _)];unfold Oper.wp at h;generalize (execOp a.eval o).run P w=r at *;cases r with
 | ok n w' =>
   cases n<;>simp only [Oper.upon,Oper.uponIn] at h ⊢
   case value u=>exact h
   case skip=>exact h
   case defer d=>exact h
   case enter f args=>exact ⟨fun h0=>(by cases h0),callsIn_wide.2 h⟩
   case row row args=>exact ⟨fun h0=>(by cases h0),fun c cs _=>let ⟨v,w',r,s⟩:=h c cs;⟨v,w',r,stepsIn_wide.2 s⟩⟩
 | halt x w' =>
   cases x<;>simp only [Oper.upon,Oper.uponIn] at h ⊢
   case panic u=>exact h
theorem anyW_of {n:Nat} (hlo:¬ LetsOut Q) (hnd:noDefer ops=true):∀ (f:Nat) (listed:Array Bool) (a:Act) (w:World),wpAny P md ops Q f listed a w→wpAnyIn Fence.wide n P md ops Q f listed a w
 | 0,_,_,_,h=>h
 | f+1,listed,a,w,h=>by
   refine ⟨h.1,fun i hi=>?_⟩;have h1:=h.2 i hi;unfold wpOp at h1;unfold wpOpIn;cases ho:ops[i]? with
   | none=>simp only [ho] at h1 ⊢;exact anyW_of hlo hnd f _ _ _ h1
   | some o =>
     simp only [ho] at h1 ⊢
     by_cases hw:Region.wanted o (yielded ops a.tmps)=true
     ·rw [if_pos hw] at h1 ⊢
      rcases h1 with h1 | h1
      ·exact Oper.wpIn_mono (fun a' w' h'=>anyW_of hlo hnd f _ a' w' h') (opW_of (noDefer_spec hnd i o ho) h1)
      ·exact absurd h1.2 hlo
     ·rw [if_neg hw] at h1 ⊢
      exact ⟨fun _ _=>trivial,anyW_of hlo hnd f _ _ _ h1⟩
theorem regionW_any {n id:Nat} {a:Act} {w:World} (hm:P.follows .mixedOrders=true) (hlo:¬ LetsOut Q) (hnd:noDefer ops=true)
 (h:wpAny P .any ops Q ops.size (Array.replicate ops.size false) a w.drew):(Code.region id ops true).wpIn Fence.wide n P Q a w :=
 wpIn_region_any hm (anyW_of hlo hnd _ _ _ _ h)
def calmQ (Q:Exit→Act→World→Prop):Exit→Act→World→Prop
 | .panic _,_,_=>False
 | .outgrown,_,_=>False
 | .normal,a,w=>Q .normal a w
 | .ret,a,w=>Q .ret a w
 | .exit id,a,w=>Q (.exit id) a w
 | .goto t,a,w=>Q (.goto t) a w
theorem calm_normal {a:Act} {w:World} (h:Q .normal a w):calmQ Q .normal a w:=h
theorem calm_le:∀ (e:Exit) (a:Act) (w:World),calmQ Q e a w→Q e a w
 | .panic _,_,_,h=>h.elim
 | .outgrown,_,_,h=>h.elim
 | .normal,_,_,h=>h
 | .ret,_,_,h=>h
 | .exit _,_,_,h=>h
 | .goto _,_,_,h=>h
theorem regionW_calm {n id:Nat} {a:Act} {w:World} (hm:P.follows .mixedOrders=true) (hnd:noDefer ops=true)
 (h:wpAny P .any ops (calmQ Q) ops.size (Array.replicate ops.size false) a w.drew):(Code.region id ops true).wpIn Fence.wide n P Q a w :=
 Code.wpIn_mono calm_le (regionW_any hm (fun ⟨_,_,h⟩=>h) hnd h)
end
end Go.Proofs.YthamoeekiglphaaGreatDoor
namespace Go.Proofs.YthamoeekiglphaaGreatDoor
set_option maxRecDepth 100000
set_option linter.unusedVariables false
section
variable (sm:List UInt8→List UInt8) {n:Nat}
def stepI (x:Side n) (q inp:List UInt8):List UInt8:=if x.r=true then nodeI (sm inp) q else nodeI q (sm inp)
def wayR (s:List UInt8) (p:List (List UInt8)):List (Side n)→List (List UInt8)
 | []=>[leafI s]
 | x::xs=>wayR s p xs++[stepI sm x (p.getD xs.length []) ((wayR s p xs).getLastD [])]
def wayL (s:List UInt8) (p:List (List UInt8)) (pre:List (Side n)):List (List UInt8):=wayR sm s p pre.reverse
theorem wayL_snoc (s:List UInt8) (p:List (List UInt8)) (pre:List (Side n)) (x:Side n):wayL sm s p (pre++[x])=wayL sm s p pre++[stepI sm x (p.getD pre.length []) ((wayL sm s p pre).getLastD [])]:=by
 unfold wayL;rw [List.reverse_append,List.reverse_singleton,List.singleton_append,wayR,List.length_reverse]
theorem wayR_len (s:List UInt8) (p:List (List UInt8)):∀ xs:List (Side n),(wayR sm s p xs).length=xs.length+1
 | []=>rfl
 | x::xs=>by rw [wayR,List.length_append,wayR_len s p xs];rfl
theorem wayL_len (s:List UInt8) (p:List (List UInt8)) (pre:List (Side n)):(wayL sm s p pre).length=pre.length+1:=by
 unfold wayL;rw [wayR_len,List.length_reverse]
theorem wayR_congr (s:List UInt8) (p q:List (List UInt8)):∀ xs:List (Side n),(∀ k,k < xs.length→p.getD k []=q.getD k [])→wayR sm s p xs=wayR sm s q xs
 | [],_=>rfl
 | x::xs,h=>by rw [wayR,wayR,wayR_congr s p q xs (fun k hk=>h k (by simp;omega)),h xs.length (by simp)]
theorem wayL_congr (s:List UInt8) (p q:List (List UInt8)) (pre:List (Side n)) (h:∀ k,k < pre.length→p.getD k []=q.getD k []):wayL sm s p pre=wayL sm s q pre :=
 wayR_congr sm s p q _ (fun k hk=>h k (by simpa using hk))
theorem wayR_bound (h32:∀ s,(sm s).length=32) (s:List UInt8) (p:List (List UInt8)) (hp:∀ x∈p,x.length=32):∀ (xs:List (Side n)),∀ t∈wayR sm s p xs,t.length≤s.length+65
 | [],t,ht=>by rw [wayR,List.mem_singleton] at ht;rw [ht];simp [leafI]
 | x::xs,t,ht=>by
   rw [wayR] at ht;rcases List.mem_append.1 ht with h | h
   ·exact wayR_bound h32 s p hp xs t h
   ·rw [List.mem_singleton] at h
    have hq:(p.getD xs.length []).length≤32:=by
     rw [List.getD_eq_getElem?_getD];cases hx:p[xs.length]? with
     | none=>simp
     | some y=>rw [Option.getD_some,hp y (List.mem_of_getElem? hx)];omega
    rw [h];unfold stepI
    by_cases hr:x.r=true
    ·rw [if_pos hr];unfold nodeI;rw [List.length_cons,List.length_append,h32];omega
    ·rw [if_neg hr];unfold nodeI;rw [List.length_cons,List.length_append,h32];omega
theorem wayL_bound (h32:∀ s,(sm s).length=32) (s:List UInt8) (p:List (List UInt8)) (hp:∀ x∈p,x.length=32) (pre:List (Side n)):∀ t∈wayL sm s p pre,t.length≤s.length+65:=wayR_bound sm h32 s p hp _
theorem dropLast_getD (p:List (List UInt8)) (k:Nat) (h:k+1 < p.length):p.dropLast.getD k []=p.getD k []:=by
 rw [List.dropLast_eq_take,List.getD_eq_getElem?_getD,List.getD_eq_getElem?_getD,List.getElem?_take_of_lt (by omega)]
theorem way_in:∀ (d a b i:Nat) (s:List UInt8) (p:List (List UInt8)) (h:b≤n),b - a=d→1≤d→a≤i→i < b→p.length=(sidesS n a b i h).length →
 inL sm (b - a) (i - a) s p=some (wayL sm s p (sidesS n a b i h)):=by
 intro d
 induction d using Nat.strongRecOn with
 | _ d ih =>
   intro a b i s p h hd h0 ha hi hp
   by_cases h1:b - a≤1
   ·rw [sidesS_nil _ a b i h h1] at hp ⊢
    rw [inL_one sm _ _ _ _ h1,if_pos (by simpa using hp)];rfl
   ·have hm:=mid_le a b h1
    have hps:=hf_pos (b - a)
    by_cases hk:i < a+hf (b - a)
    ·rw [sidesS_left _ a b i h h1 hk (by omega) (by omega)] at hp ⊢
     rw [List.length_append,List.length_singleton] at hp;have hI:=ih (hf (b - a)) (by omega) a (a+hf (b - a)) i s p.dropLast (by omega) (by omega) (by omega) ha hk (by rw [List.length_dropLast];omega);rw [show a+hf (b - a) - a=hf (b - a) by omega] at hI;rw [inL_left sm _ _ _ _ (by omega) (by omega) (by omega),hI,wayL_snoc,wayL_congr sm s p.dropLast p _ (fun k hk=>dropLast_getD p k (by omega)),last_getD p,show p.length - 1=(sidesS n a (a+hf (b - a)) i (by omega)).length by omega];rfl
    ·rw [sidesS_right _ a b i h h1 hk (by omega) (by omega)] at hp ⊢
     rw [List.length_append,List.length_singleton] at hp;have hI:=ih (b - (a+hf (b - a))) (by omega) (a+hf (b - a)) b i s p.dropLast h rfl (by omega) (by omega) hi (by rw [List.length_dropLast];omega);rw [show b - (a+hf (b - a))=b - a - hf (b - a) by omega,show i - (a+hf (b - a))=i - a - hf (b - a) by omega] at hI;rw [inL_right sm _ _ _ _ (by omega) (by omega) (by omega),hI,wayL_snoc,wayL_congr sm s p.dropLast p _ (fun k hk=>dropLast_getD p k (by omega)),last_getD p,show p.length - 1=(sidesS n (a+hf (b - a)) b i h).length by omega];rfl
theorem way_none:∀ (d a b i:Nat) (s:List UInt8) (p:List (List UInt8)) (h:b≤n),b - a=d→1≤d→a≤i→i < b→p.length≠(sidesS n a b i h).length →
 inL sm (b - a) (i - a) s p=none:=by
 intro d
 induction d using Nat.strongRecOn with
 | _ d ih =>
   intro a b i s p h hd h0 ha hi hp
   by_cases h1:b - a≤1
   ·rw [sidesS_nil _ a b i h h1] at hp
    rw [inL_one sm _ _ _ _ h1,if_neg (by simpa using hp)]
   ·have hm:=mid_le a b h1
    have hps:=hf_pos (b - a)
    by_cases hp0:p.length=0
    ·exact inL_none sm _ _ _ _ (by omega) hp0
    ·by_cases hk:i < a+hf (b - a)
     ·rw [sidesS_left _ a b i h h1 hk (by omega) (by omega),List.length_append,List.length_singleton] at hp
      have hI:=ih (hf (b - a)) (by omega) a (a+hf (b - a)) i s p.dropLast (by omega) (by omega) (by omega) ha hk (by rw [List.length_dropLast];omega);rw [show a+hf (b - a) - a=hf (b - a) by omega] at hI;rw [inL_left sm _ _ _ _ (by omega) hp0 (by omega),hI];rfl
     ·rw [sidesS_right _ a b i h h1 hk (by omega) (by omega),List.length_append,List.length_singleton] at hp
      have hI:=ih (b - (a+hf (b - a))) (by omega) (a+hf (b - a)) b i s p.dropLast h rfl (by omega) (by omega) hi (by rw [List.length_dropLast];omega);rw [show b - (a+hf (b - a))=b - a - hf (b - a) by omega,show i - (a+hf (b - a))=i - a - hf (b - a) by omega] at hI;rw [inL_right sm _ _ _ _ (by omega) hp0 (by omega),hI];rfl
theorem climbL_fits (n i:Nat) (h1:1≤n) (h4:n≤4096) (hi:i < n) (s:List UInt8) (p:List (List UInt8)) (hp:p.length=(sidesS n 0 n i (Nat.le_refl _)).length) (h32:∀ x∈p,x.length=32) :
 climbL sm n i s p=(wayL sm s p (sidesS n 0 n i (Nat.le_refl _))++[rootI n (sm ((wayL sm s p (sidesS n 0 n i (Nat.le_refl _))).getLastD []))],0):=by
 have hI:=way_in sm (n:=n) (n - 0) 0 n i s p (Nat.le_refl _) rfl (by omega) (by omega) hi hp;rw [Nat.sub_zero,Nat.sub_zero] at hI;unfold climbL;rw [if_neg (by omega),if_neg (fun ⟨x,hx,hn⟩=>hn (h32 x hx))];simp only [Int.toNat_natCast,hI]
theorem climbL_no (n i:Nat) (h1:1≤n) (h4:n≤4096) (hi:i < n) (s:List UInt8) (p:List (List UInt8)) (hp:¬ (p.length=(sidesS n 0 n i (Nat.le_refl _)).length∧∀ x∈p,x.length=32)):climbL sm n i s p=([],14):=by
 unfold climbL;rw [if_neg (by omega)]
 by_cases h32:∃ x∈p,x.length≠32
 ·rw [if_pos h32]
 ·have hl:p.length≠(sidesS n 0 n i (Nat.le_refl _)).length:=fun hl=>hp ⟨hl,fun x hx=>Classical.not_not.1 fun hn=>h32 ⟨x,hx,hn⟩⟩
  have hI:=way_none sm (n:=n) (n - 0) 0 n i s p (Nat.le_refl _) rfl (by omega) (by omega) hi hl;rw [Nat.sub_zero,Nat.sub_zero] at hI;rw [if_neg h32];simp only [Int.toNat_natCast,hI]
end
end Go.Proofs.YthamoeekiglphaaGreatDoor
