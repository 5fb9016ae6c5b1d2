/-
  What lump.takeLength answers, at whatever bytes. What lump.TakeText answers, at whatever bytes. What lump.Num answers, at whatever number. Roots, proofs and wha
-/
import Derived.Test.YtkkenfhlgpjmjaaGreatDoorCL0d
import Derived.Lib.SlKeysI
import Derived.Shelf.SlIterI.Nil
import Derived.Shelf.SlIterI.Sorted
import Derived.Defers
import Derived.Recover
import Derived.KernelRfl
namespace Go.Proofs.YtkkenfhlgpjmjaaGreatDoor
set_option maxRecDepth 100000
open Go.RowKit
attribute [local go_sem] ba_size ba_get ba_extract ba_append wrap_byte wrap_u64_byte take_drop_end
set_option maxHeartbeats 800000 in
theorem takeLength_any (l:List UInt8) (most:Int) (w:World) (hs:l.length≤9223372036854775807) :
 Calls Tryz.prog 235 #[.string ⟨l.toArray⟩,.int .i64 most] w fun e w'=>e=.returned (.tuple #[.int .i64 ((Lm.takeLenL l most).1:Int),.string ⟨(Lm.takeLenL l most).2.1.toArray⟩,.int .i64 ((Lm.takeLenL l most).2.2:Int)])∧Below w.heap.size w w':=by
 match l,hs with
 | [],_ =>
   go_enter Tryz.func235,Tryz.ntmps235
   go_wp2
   go_ret3
   exact ⟨rfl,Below.refl _ _⟩
 | b::r,hs =>
   simp only [List.length_cons] at hs
   by_cases h1:b.toNat≤250
   ·have hne:((b.toNat:Int)==251)=false:=by simp;omega
    by_cases h0:most < (b.toNat:Int)
    ·have e:Lm.takeLenL (b::r) most=(0,[],4):=by simp [Lm.takeLenL,Lm.sizeL,h1,h0]
     rw [e];clear e
     go_enter Tryz.func235,Tryz.ntmps235
     go_wp2
     go_quiet (fail)
     go_wp2
     go_ret3
     exact ⟨rfl,below_drewN (Below.refl _ _) _⟩
    ·have e:Lm.takeLenL (b::r) most=(b.toNat,r,0):=by simp [Lm.takeLenL,Lm.sizeL,h1,h0]
     rw [e];clear e
     go_enter Tryz.func235,Tryz.ntmps235
     go_wp2
     go_quiet (fail)
     go_wp2
     go_ret3
     exact ⟨rfl,below_drewN (Below.refl _ _) _⟩
   by_cases h2:251 < b.toNat
   ·have e:Lm.takeLenL (b::r) most=(0,[],3):=by simp [Lm.takeLenL,Lm.sizeL,h1,h2]
    rw [e];clear e
    go_enter Tryz.func235,Tryz.ntmps235
    go_wp2
    go_quiet (fail)
    go_wp2
    go_ret3
    exact ⟨rfl,below_drewN (Below.refl _ _) _⟩
   obtain rfl:b=251:=by apply UInt8.toNat_inj.1;show b.toNat=251;omega
   clear h1 h2
   match r,hs with
   | [],hs =>
     go_enter Tryz.func235,Tryz.ntmps235
     go_wp2
     go_quiet (fail)
     go_wp2
     go_ret3
     exact ⟨rfl,below_drewN (Below.refl _ _) _⟩
   | [a],hs =>
     go_enter Tryz.func235,Tryz.ntmps235
     go_wp2
     go_quiet (fail)
     go_wp2
     go_ret3
     exact ⟨rfl,below_drewN (Below.refl _ _) _⟩
   | a::c::r,hs =>
     simp only [List.length_cons] at hs
     have ha:=a.toNat_lt
     have hc:=c.toNat_lt
     have hor:=or_byte_i64 a c
     by_cases h3:256*a.toNat+c.toNat≤250
     ·have e:Lm.takeLenL (251::a::c::r) most=(0,[],3):=by simp [Lm.takeLenL,Lm.sizeL,h3]
      rw [e];clear e
      go_enter Tryz.func235,Tryz.ntmps235
      go_wp2
      go_quiet (fail)
      go_wp2
      go_quiet (fail)
      go_wp2
      go_ret3
      exact ⟨rfl,below_drewN (Below.refl _ _) _⟩
     by_cases h0:most < ((256*a.toNat+c.toNat:Nat):Int)
     ·have e:Lm.takeLenL (251::a::c::r) most=(0,[],4):=by
       simp only [Lm.takeLenL,Lm.sizeL,h3];simp;omega
      rw [e];clear e
      go_enter Tryz.func235,Tryz.ntmps235
      go_wp2
      go_quiet (fail)
      go_wp2
      go_quiet (fail)
      go_wp2
      go_ret3
      exact ⟨rfl,below_drewN (Below.refl _ _) _⟩
     ·have e:Lm.takeLenL (251::a::c::r) most=(256*a.toNat+c.toNat,r,0):=by
       simp only [Lm.takeLenL,Lm.sizeL,h3];simp;omega
      rw [e];clear e
      go_enter Tryz.func235,Tryz.ntmps235
      go_wp2
      go_quiet (fail)
      go_wp2
      go_quiet (fail)
      go_wp2
      go_ret3
      exact ⟨rfl,below_drewN (Below.refl _ _) _⟩
set_option maxHeartbeats 800000 in
theorem takeText_any (l:List UInt8) (most:Int) (w:World) (hs:l.length≤9223372036854775807) :
 Calls Tryz.prog 176 #[.string ⟨l.toArray⟩,.int .i64 most] w fun e w'=>e=.returned (.tuple #[.string ⟨(Lm.takeTextL l most).1.toArray⟩,.string ⟨(Lm.takeTextL l most).2.1.toArray⟩,.int .i64 ((Lm.takeTextL l most).2.2:Int)])∧Below w.heap.size w w':=by
 have hbd:=takeLenL_bd l most
 have hc:=takeLength_any l most w hs
 unfold Lm.takeTextL
 generalize Lm.takeLenL l most=x at *
 obtain ⟨n,rest,e⟩:=x
 have HC:Hid (Calls Tryz.prog 235 #[.string ⟨l.toArray⟩,.int .i64 most] w fun e' w'=>e'=.returned (.tuple #[.int .i64 (n:Int),.string ⟨rest.toArray⟩,.int .i64 (e:Int)])∧Below w.heap.size w w'):=hc
 simp only at hbd
 clear hc
 by_cases he:e≠0
 ·rw [if_pos he]
  have hb:((e:Int) != 0)=true:=by simp;omega
  go_enter Tryz.func176,Tryz.ntmps176
  go_wp2_with fail
  refine HC.out.mono ?_
  rintro e w1 ⟨rfl,hb1⟩
  go_wp2_with fail
  go_ret3
  exact ⟨rfl,hb1⟩
 ·have he':e=0:=by omega
  subst he'
  clear he
  rw [if_neg (by simp)]
  by_cases hl:rest.length < n
  ·rw [if_pos hl]
   go_enter Tryz.func176,Tryz.ntmps176
   go_wp2_with fail
   refine HC.out.mono ?_
   rintro e w1 ⟨rfl,hb1⟩
   go_wp2_with fail
   go_ret3
   exact ⟨rfl,hb1⟩
  ·rw [if_neg hl]
   go_enter Tryz.func176,Tryz.ntmps176
   go_wp2_with fail
   refine HC.out.mono ?_
   rintro e w1 ⟨rfl,hb1⟩
   go_wp2_with fail
   go_quiet (fail)
   go_wp2
   go_ret3
   exact ⟨rfl,below_drewN hb1 _⟩
end Go.Proofs.YtkkenfhlgpjmjaaGreatDoor
namespace Go.Proofs.YtkkenfhlgpjmjaaGreatDoor
set_option maxRecDepth 100000
open Go.RowKit
def nine (v k:Nat):List Int:=List.replicate (9 - k) 0++(Lm.low k v).map (fun b=>(b.toNat:Int))
def nineA (v k:Nat):Array Value:=((nine v k).map (Value.int .u8)).toArray
theorem nine_at (v k j:Nat) (h:j < 9 - k):(nineA v k)[j]?=some (.int .u8 0):=by
 simp [nineA,nine,List.getElem?_append,h]
theorem nine_set (v k:Nat) (h:k < 9) (x:Int):(nine v k).set (8 - k) x=List.replicate (8 - k) 0++x::(Lm.low k v).map (fun b=>(b.toNat:Int)):=by
 unfold nine
 rw [show 9 - k=8 - k+1 from by omega,List.replicate_succ',List.append_assoc,List.set_append_right _ _ (by simp)]
 simp
theorem nineA_set (v k m:Nat) (h:m+k=8) (x:Int):(nineA v k).setIfInBounds m (.int .u8 x)=((List.replicate m (0:Int)++x::(Lm.low k v).map (fun b:UInt8=>(b.toNat:Int))).map (Value.int .u8)).toArray:=by
 obtain rfl:m=8 - k:=by omega
 rw [← nine_set v k (by omega) x]
 simp [nineA]
theorem nineA_next (v k m:Nat) (h:m+1+k=8):(nineA v k).setIfInBounds (m+1) (.int .u8 (((v / 256 ^ k:Nat):Int) % 256))=nineA v (k+1):=by
 rw [nineA_set v k (m+1) h]
 unfold nineA nine
 rw [show 9 - (k+1)=m+1 from by omega,Lm.low]
 congr 3
theorem row_cells (w:World) (m:Nat) (xs:List Int) (t:TypeId) (i:Nat) (hi:i < xs.length) :
 (w.alloc (.cells ((List.replicate m (0:Int)++xs).map (Value.int .u8)).toArray t)).cell? ⟨w.heap.size,m+i,none⟩=some (.int .u8 (xs.getD i 0)):=by
 rw [World.cell?_alloc_new]
 simp [hi]
theorem slice60 (w:World) (b m:Nat) (hm:m < 9) :
 (Instr.sliceAt 280 (.pointer (some ⟨b,0,none⟩)) (some (.int .i64 (m:Int))) none none).run Tryz.prog w=.ok (.slice (some ⟨b,m,none⟩) (9 - m) (9 - m)) w:=by
 have hl:Tryz.prog.arrayLen 280=9:=by kernel_rfl
 have hz:∀ w,(Go.sizeOf (Tryz.prog.elem 280)).run Tryz.prog w=.ok 1 w:=fun w=>by kernel_rfl
 rw [run_sliceAt_array_l w 280 ⟨b,0,none⟩ (by kernel_rfl) .i64 m (by omega) (by rw [hl];omega),hl,hz]
 simp only [Result.andThen,slicedAt,Int.toNat_natCast]
 rw [if_neg (by omega)]
 unfold Addr.add;split<;>simp_all
set_option maxHeartbeats 400000 in
theorem num_any (v:Nat) (hv:v < 18446744073709551616) (w:World) :
 Calls Tryz.prog 156 #[.int .u64 v] w fun e w'=>e=.returned (.string ⟨(Lm.numL v).toArray⟩)∧Below w.heap.size w w':=by
 go_enter Tryz.func156,Tryz.ntmps156
 go_wp2
 go_loopw [0,4] (fun a i wr=>∃ m k:Nat,m+k=8∧a=.int .u64 ((v / 256 ^ k:Nat):Int)∧i=.int .i64 ((m:Int)+1)∧(k=0∨0 < v / 256 ^ (k - 1))∧wr=w.alloc (.cells (nineA v k) 280))
  (fun _ i _=>(RowKit.intOf i).toNat)
 case atStart=>exact ⟨8,0,rfl,by simp,rfl,.inl rfl,rfl⟩
 case round =>
  obtain ⟨m,k,hmk,rfl,rfl,hk,rfl⟩:=hrel
  by_cases hlt:0 < v / 256 ^ k
  ·have hk8:=Lm.loop_le v k (by omega) hlt
   obtain ⟨m,rfl⟩:∃ m',m=m'+1:=⟨m - 1,by omega⟩
   have hc:=nine_at v k (m+1) (by omega)
   have hx:((v / 256 ^ k:Nat):Int) < 18446744073709551616:=by have:=Nat.div_le_self v (256 ^ k);omega
   have hN:=nineA_next v k m hmk
   have hD:v / 256 ^ (k+1)=v / 256 ^ k / 256:=by rw [Nat.pow_succ,Nat.div_div_eq_div_mul]
   generalize hxx:v / 256 ^ k=x at *
   have HN:Hid _:=hN;clear hN
   have HD:Hid _:=hD;clear hD
   have HX:Hid _:=hxx;clear hxx
   go_wp2
   go_roundw
   case rel=>exact ⟨m,k+1,by omega,by rw [HD.out];simp,rfl,.inr (by simpa [HX.out] using hlt),by rw [HN.out]⟩
   case measure=>simp [RowKit.intOf];omega
  ·have hz:v / 256 ^ k=0:=Nat.eq_zero_of_not_pos hlt
   obtain rfl:=Lm.cnt_of_loop v k (by omega) hk hz
   have hc:=nine_at v (Lm.cnt v) m (by omega)
   have hs:=nineA_set v (Lm.cnt v) m hmk (Lm.cnt v)
   have hkm:(Lm.cnt v:Int)=8 - m:=by omega
   rw [hz]
   have hfin:strOfNums ((Lm.cnt v:Int)::(Lm.low (Lm.cnt v) v).map (fun b:UInt8=>(b.toNat:Int)))=⟨(Lm.numL v).toArray⟩:=by
    simp [strOfNums,Lm.numL,Function.comp_def]
   have HF:Hid _:=hfin;clear hfin
   generalize Lm.cnt v=k at *
   have HS:Hid _:=hs;clear hs
   have HK:Hid _:=hkm;clear hkm
   have HZ:Hid _:=hz;clear hz
   have hm8:m≤8:=by omega
   have HM:Hid _:=hmk;clear hmk
   clear hlt hk
   have hsl:=fun w'=>slice60 w' w.heap.size m (by omega)
   have hcv:=run_convert_bytes_arg (P:=Tryz.prog) (w.alloc (Obj.cells ((nineA v k).setIfInBounds m (Value.int IntKind.u8 (9 - (↑m+1)))) 280)) 98 5 (by kernel_rfl) (by kernel_rfl) w.heap.size m (9 - m) (9 - m) ((k:Int)::(Lm.low k v).map (fun b:UInt8=>(b.toNat:Int))) (by have:=HM.out;simp [Lm.low_length];omega)
    (by
     intro i hi
     have e:(9 - ((m:Int)+1))=k:=by have:=HM.out;omega
     rw [e,HS.out]
     exact row_cells w m _ 280 i (by have:=HM.out;simp [Lm.low_length];omega)) 9 (by kernel_rfl)
   go_wp2
   go_ret
   exact ⟨ret_str HF.out,(Below.refl _ _).alloc (Nat.le_refl _) _⟩
theorem num_len (v:Nat):(Lm.numL v).length≤9:=by rw [Lm.numL_length];have:=Lm.cnt_le v;omega
set_option linter.unusedVariables false
def leafI (s:List UInt8):List UInt8:=0::s
def nodeI (a b:List UInt8):List UInt8:=1::(a++b)
def rootI (n:Nat) (c:List UInt8):List UInt8:=2::(Lm.numL n++c)
def hfGo:Nat→Nat→Nat→Nat
 | 0,k,_=>k
 | f+1,k,n=>if k+k < n then hfGo f (k+k) n else k
def hf (n:Nat):Nat:=hfGo n 1 n
theorem hfGo_facts:∀ (f k n:Nat),1≤k→n≤f+k→1≤hfGo f k n∧(k < n→hfGo f k n < n)∧n≤2*hfGo f k n:=by
 intro f
 induction f with
 | zero=>intro k n h1 h2;refine ⟨h1,fun h=>h,?_⟩;rw [hfGo];omega
 | succ f ih =>
   intro k n h1 h2
   rw [hfGo]
   by_cases h:k+k < n
   ·rw [if_pos h]
    have:=ih (k+k) n (by omega) (by omega)
    exact ⟨this.1,fun _=>this.2.1 h,this.2.2⟩
   ·rw [if_neg h]
    exact ⟨h1,fun h=>h,by omega⟩
theorem hf_pos (n:Nat):1≤hf n:=(hfGo_facts n 1 n (by omega) (by omega)).1
theorem hf_lt (n:Nat) (h:2≤n):hf n < n:=(hfGo_facts n 1 n (by omega) (by omega)).2.1 (by omega)
def topL (sm:List UInt8→List UInt8) (l:List (List UInt8)):List UInt8 :=
 if h:l.length≤1 then leafI (l.headD []) else nodeI (sm (topL sm (l.take (hf l.length)))) (sm (topL sm (l.drop (hf l.length))))
 termination_by l.length
 decreasing_by
  ·have:=hf_lt l.length (by omega);simp;omega
  ·have:=hf_pos l.length;simp;omega
theorem topL_one (sm:List UInt8→List UInt8) (s:List UInt8):topL sm [s]=leafI s:=by rw [topL];rfl
theorem topL_more (sm:List UInt8→List UInt8) (l:List (List UInt8)) (h:2≤l.length):topL sm l=nodeI (sm (topL sm (l.take (hf l.length)))) (sm (topL sm (l.drop (hf l.length)))):=by
 rw [topL,dif_neg (by omega)]
def crownL (sm:List UInt8→List UInt8) (l:List (List UInt8)):List UInt8:=if l.length=0 then [] else sm (topL sm l)
def rootL (sm:List UInt8→List UInt8) (l:List (List UInt8)):List UInt8:=sm (rootI l.length (crownL sm l))
abbrev PS:=Int→Bool
def hasP (h:List Ev) (i:Int):Bool:=decide (0≤i∧i < (h.length:Int))
def addP (h:List Ev) (p:PS) (i:Int):PS:=fun n=>p n || (hasP h i&&decide (i=n))
def endP (h:List Ev) (p:PS) (t:Int):PS:=match findL h t with
 | some y=>addP h p (y.2.2.1:Int)
 | none=>p
def endedP (h:List Ev) (p:PS) (i:Int):PS:=if hasP h i=true then endP h (addP h p i) (tx h i.toNat) else p
def writerP (h:List Ev) (p:PS) (i:Int):PS:=if wrT h i=true then endedP h p (oI (writerL h (ev h i.toNat).2.2.1 (ev h i.toNat).2.2.2)) else p
def badP (h:List Ev) (p:PS) (b:Int × Int × Int):PS:=writerP h (endedP h (endedP h p b.2.1) b.2.2) b.2.1
def edgeP (h:List Ev) (p:PS) (e:Ed):PS:=if e.1=3 then writerP h (endP h (endP h (addP h (addP h p e.2.2.2.1) e.2.2.2.2) e.2.1) e.2.2.1) e.2.2.2.1 else endP h (endP h (addP h (addP h p e.2.2.2.1) e.2.2.2.2) e.2.1) e.2.2.1
def needP (h:List Ev) (v:Vd):PS:=if v.2.1=true then (fun _=>false) else if v.2.2.2.1.1≠0 then badP h (fun _=>false) v.2.2.2.1 else v.2.2.2.2.foldl (edgeP h) (fun _=>false)
theorem hasP_iff (h:List Ev) (i:Int):hasP h i=true↔0≤i∧i < (h.length:Int):=decide_eq_true_iff
theorem addP_iff (h:List Ev) (p:PS) (i n:Int):addP h p i n=true↔p n=true∨(hasP h n=true∧i=n):=by
 unfold addP
 rw [Bool.or_eq_true,Bool.and_eq_true,decide_eq_true_iff]
 constructor
 ·rintro (h1 | ⟨h1,rfl⟩)
  ·exact .inl h1
  ·exact .inr ⟨h1,rfl⟩
 ·rintro (h1 | ⟨h1,rfl⟩)
  ·exact .inl h1
  ·exact .inr ⟨h1,rfl⟩
theorem endP_iff (h:List Ev) (p:PS) (t n:Int):endP h p t n=true↔p n=true∨(hasP h n=true∧endsAt h t n=true):=by
 unfold endP endsAt
 cases findL h t with
 | none=>simp
 | some y=>simp only;rw [addP_iff,decide_eq_true_iff]
theorem endedP_iff (h:List Ev) (p:PS) (i n:Int):endedP h p i n=true↔p n=true∨(hasP h n=true∧i=n)∨(hasP h n=true∧∃ t,inT h i=some t∧endsAt h t n=true):=by
 unfold endedP inT
 by_cases hi:hasP h i=true
 ·rw [if_pos hi,endP_iff,addP_iff,if_pos ((hasP_iff h i).1 hi)]
  constructor
  ·rintro ((h1 | h1) | h1)
   ·exact .inl h1
   ·exact .inr (.inl h1)
   ·exact .inr (.inr ⟨h1.1,_,rfl,h1.2⟩)
  ·rintro (h1 | h1 | ⟨h1,t,h2,h3⟩)
   ·exact .inl (.inl h1)
   ·exact .inl (.inr h1)
   ·cases h2;exact .inr ⟨h1,h3⟩
 ·rw [if_neg hi,if_neg (fun e=>hi ((hasP_iff h i).2 e))]
  constructor
  ·exact .inl
  ·rintro (h1 | ⟨h1,rfl⟩ | ⟨h1,t,h2,h3⟩)
   ·exact h1
   ·exact absurd h1 hi
   ·cases h2
theorem writerP_iff (h:List Ev) (p:PS) (i n:Int):writerP h p i n=true↔p n=true∨(wrT h i=true∧((hasP h n=true∧oI (writerL h (ev h i.toNat).2.2.1 (ev h i.toNat).2.2.2)=n)∨(hasP h n=true∧∃ t,inT h (oI (writerL h (ev h i.toNat).2.2.1 (ev h i.toNat).2.2.2))=some t∧endsAt h t n=true))):=by
 unfold writerP
 by_cases hi:wrT h i=true
 ·rw [if_pos hi,endedP_iff];simp only [hi,true_and]
 ·rw [if_neg hi];simp [hi]
theorem badP_iff (h:List Ev) (p:PS) (b:Int × Int × Int) (n:Int):badP h p b n=true↔p n=true∨(hasP h n=true∧(n∈plB h b∨(enB h b).any (fun t=>endsAt h t n)=true)):=by
 unfold badP
 rw [writerP_iff,endedP_iff,endedP_iff]
 have ha:(enB h b).any (fun t=>endsAt h t n)=true↔∃ i∈plB h b,∃ t,inT h i=some t∧endsAt h t n=true:=by
  unfold enB
  rw [List.any_eq_true]
  constructor
  ·rintro ⟨t,h1,h2⟩
   obtain ⟨i,h3,h4⟩:=List.mem_filterMap.1 h1
   exact ⟨i,h3,t,h4,h2⟩
  ·rintro ⟨i,h1,t,h2,h3⟩
   exact ⟨t,List.mem_filterMap.2 ⟨i,h1,h2⟩,h3⟩
 rw [ha]
 unfold plB
 by_cases hw:wrT h b.2.1=true
 ·rw [if_pos hw]
  generalize oI (writerL h (ev h b.2.1.toNat).2.2.1 (ev h b.2.1.toNat).2.2.2)=o
  simp only [hw,true_and,List.cons_append,List.nil_append,List.mem_cons,List.not_mem_nil,or_false,exists_eq_or_imp,exists_eq_left]
  constructor
  ·rintro (((h1 | ⟨h1,h2⟩ | ⟨h1,h2⟩) | ⟨h1,h2⟩ | ⟨h1,h2⟩) | ⟨h1,h2⟩ | ⟨h1,h2⟩)
   ·exact .inl h1
   ·exact .inr ⟨h1,.inl (.inl h2.symm)⟩
   ·exact .inr ⟨h1,.inr (.inl h2)⟩
   ·exact .inr ⟨h1,.inl (.inr (.inl h2.symm))⟩
   ·exact .inr ⟨h1,.inr (.inr (.inl h2))⟩
   ·exact .inr ⟨h1,.inl (.inr (.inr h2.symm))⟩
   ·exact .inr ⟨h1,.inr (.inr (.inr h2))⟩
  ·rintro (h1 | ⟨h1,(h2 | h2 | h2) | h2 | h2 | h2⟩)
   ·exact .inl (.inl (.inl h1))
   ·exact .inl (.inl (.inr (.inl ⟨h1,h2.symm⟩)))
   ·exact .inl (.inr (.inl ⟨h1,h2.symm⟩))
   ·exact .inr (.inl ⟨h1,h2.symm⟩)
   ·exact .inl (.inl (.inr (.inr ⟨h1,h2⟩)))
   ·exact .inl (.inr (.inr ⟨h1,h2⟩))
   ·exact .inr (.inr ⟨h1,h2⟩)
 ·rw [if_neg hw]
  simp only [hw,Bool.false_eq_true,false_and,or_false,List.append_nil,List.mem_cons,List.not_mem_nil,exists_eq_or_imp,exists_eq_left]
  constructor
  ·rintro ((h1 | ⟨h1,h2⟩ | ⟨h1,h2⟩) | ⟨h1,h2⟩ | ⟨h1,h2⟩)
   ·exact .inl h1
   ·exact .inr ⟨h1,.inl (.inl h2.symm)⟩
   ·exact .inr ⟨h1,.inr (.inl h2)⟩
   ·exact .inr ⟨h1,.inl (.inr h2.symm)⟩
   ·exact .inr ⟨h1,.inr (.inr h2)⟩
  ·rintro (h1 | ⟨h1,(h2 | h2) | h2 | h2⟩)
   ·exact .inl (.inl h1)
   ·exact .inl (.inr (.inl ⟨h1,h2.symm⟩))
   ·exact .inr (.inl ⟨h1,h2.symm⟩)
   ·exact .inl (.inr (.inr ⟨h1,h2⟩))
   ·exact .inr (.inr ⟨h1,h2⟩)
theorem wrI_of (h:List Ev) (i:Int):wrI h i=if wrT h i=true then writerL h (ev h i.toNat).2.2.1 (ev h i.toNat).2.2.2 else none:=by
 unfold wrI wrT
 by_cases hc:0≤i∧i < (h.length:Int)∧(ev h i.toNat).2.2.2≠[]
 ·rw [if_pos hc,if_pos (decide_eq_true hc)]
 ·rw [if_neg hc,if_neg (by rw [decide_eq_true_iff];exact hc)]
theorem edgeP_iff (h:List Ev) (p:PS) (e:Ed) (n:Int):edgeP h p e n=true↔p n=true∨(hasP h n=true∧(n∈plE h e∨(enE h e).any (fun t=>endsAt h t n)=true)):=by
 have base:endP h (endP h (addP h (addP h p e.2.2.2.1) e.2.2.2.2) e.2.1) e.2.2.1 n=true↔p n=true∨(hasP h n=true∧((n=e.2.2.2.1∨n=e.2.2.2.2)∨(endsAt h e.2.1 n=true∨endsAt h e.2.2.1 n=true))):=by
  rw [endP_iff,endP_iff,addP_iff,addP_iff]
  constructor
  ·rintro ((((h1 | ⟨h1,h2⟩) | ⟨h1,h2⟩) | ⟨h1,h2⟩) | ⟨h1,h2⟩)
   ·exact .inl h1
   ·exact .inr ⟨h1,.inl (.inl h2.symm)⟩
   ·exact .inr ⟨h1,.inl (.inr h2.symm)⟩
   ·exact .inr ⟨h1,.inr (.inl h2)⟩
   ·exact .inr ⟨h1,.inr (.inr h2)⟩
  ·rintro (h1 | ⟨h1,(h2 | h2) | h2 | h2⟩)
   ·exact .inl (.inl (.inl (.inl h1)))
   ·exact .inl (.inl (.inl (.inr ⟨h1,h2.symm⟩)))
   ·exact .inl (.inl (.inr ⟨h1,h2.symm⟩))
   ·exact .inl (.inr ⟨h1,h2⟩)
   ·exact .inr ⟨h1,h2⟩
 unfold edgeP plE enE
 by_cases h3:e.1=3
 ·rw [if_pos h3,if_pos h3,if_pos h3,writerP_iff,base,wrI_of]
  by_cases hw:wrT h e.2.2.2.1=true
  ·rw [if_pos hw]
   cases hr:writerL h (ev h e.2.2.2.1.toNat).2.2.1 (ev h e.2.2.2.1.toNat).2.2.2 with
   | none =>
     have hn:¬ (hasP h n=true∧(-1:Int)=n):=by rintro ⟨h1,h2⟩;have:=(hasP_iff h n).1 h1;omega
     have ht:inT h (-1)=none:=by unfold inT;rw [if_neg (by omega)]
     simp only [oI,hw,true_and,ht,hn,false_or,List.append_nil,List.mem_cons,List.not_mem_nil,or_false,List.any_cons,List.any_nil,Bool.or_false,Bool.or_eq_true]
     simp
   | some w =>
     have hlt:w < h.length:=((writerL_some _ _ _ _).1 hr).1
     have ht:inT h (w:Int)=some (tx h w):=by unfold inT;rw [if_pos (by omega),Int.toNat_natCast]
     simp only [oI,hw,true_and,ht,List.cons_append,List.nil_append,List.mem_cons,List.not_mem_nil,or_false,List.any_cons,List.any_nil,Bool.or_false,Bool.or_eq_true,Option.some.injEq,exists_eq_left']
     constructor
     ·rintro ((h1 | ⟨h1,(h2 | h2) | h2 | h2⟩) | ⟨h1,h2⟩ | ⟨h1,h2⟩)
      ·exact .inl h1
      ·exact .inr ⟨h1,.inl (.inl h2)⟩
      ·exact .inr ⟨h1,.inl (.inr (.inl h2))⟩
      ·exact .inr ⟨h1,.inr (.inl h2)⟩
      ·exact .inr ⟨h1,.inr (.inr (.inl h2))⟩
      ·exact .inr ⟨h1,.inl (.inr (.inr h2.symm))⟩
      ·exact .inr ⟨h1,.inr (.inr (.inr h2))⟩
     ·rintro (h1 | ⟨h1,(h2 | h2 | h2) | h2 | h2 | h2⟩)
      ·exact .inl (.inl h1)
      ·exact .inl (.inr ⟨h1,.inl (.inl h2)⟩)
      ·exact .inl (.inr ⟨h1,.inl (.inr h2)⟩)
      ·exact .inr (.inl ⟨h1,h2.symm⟩)
      ·exact .inl (.inr ⟨h1,.inr (.inl h2)⟩)
      ·exact .inl (.inr ⟨h1,.inr (.inr h2)⟩)
      ·exact .inr (.inr ⟨h1,h2⟩)
  ·rw [if_neg hw]
   simp only [hw,false_and,or_false,List.append_nil,List.mem_cons,List.not_mem_nil,List.any_cons,List.any_nil,Bool.or_false,Bool.or_eq_true,Bool.false_eq_true]
 ·rw [if_neg h3,if_neg h3,if_neg h3,base]
  simp only [List.append_nil,List.mem_cons,List.not_mem_nil,or_false,List.any_cons,List.any_nil,Bool.or_false,Bool.or_eq_true]
theorem ringP_iff (h:List Ev) (n:Int):∀ (l:List Ed) (p:PS),l.foldl (edgeP h) p n=true↔p n=true∨(hasP h n=true∧(n∈l.flatMap (plE h)∨(l.flatMap (enE h)).any (fun t=>endsAt h t n)=true))
 | [],p=>by simp
 | e::l,p=>by
   rw [List.foldl_cons,ringP_iff h n l,edgeP_iff,List.flatMap_cons,List.flatMap_cons,List.mem_append,List.any_append,Bool.or_eq_true]
   constructor
   ·rintro ((h1 | ⟨h1,h2 | h2⟩) | ⟨h1,h2 | h2⟩)
    ·exact .inl h1
    ·exact .inr ⟨h1,.inl (.inl h2)⟩
    ·exact .inr ⟨h1,.inr (.inl h2)⟩
    ·exact .inr ⟨h1,.inl (.inr h2)⟩
    ·exact .inr ⟨h1,.inr (.inr h2)⟩
   ·rintro (h1 | ⟨h1,(h2 | h2) | h2 | h2⟩)
    ·exact .inl (.inl h1)
    ·exact .inl (.inr ⟨h1,.inl h2⟩)
    ·exact .inr ⟨h1,.inl h2⟩
    ·exact .inl (.inr ⟨h1,.inr h2⟩)
    ·exact .inr ⟨h1,.inr h2⟩
theorem needP_iff (h:List Ev) (v:Vd) (n:Int):needP h v n=true↔hasP h n=true∧wantB h v n=true:=by
 unfold needP wantB
 cases hv:v.2.1
 ·simp only [Bool.false_eq_true,if_false,Bool.not_false,Bool.true_and,Bool.or_eq_true,decide_eq_true_iff]
  unfold plW enW
  by_cases hb:v.2.2.2.1.1≠0
  ·rw [if_pos hb,if_pos hb,if_pos hb,badP_iff];simp
  ·rw [if_neg hb,if_neg hb,if_neg hb,ringP_iff];simp
 ·simp
theorem need_rising (h:List Ev) (v:Vd) (ss:List Int) (hnd:ss.Nodup) (hs:∀ n,n∈ss↔needP h v n=true):ss.mergeSort Go.leI=(needN h v).map Int.ofNat:=by
 have h1:ss.Perm ((needN h v).map Int.ofNat):=by
  refine (List.perm_ext_iff_of_nodup hnd ?_).2 fun n=>?_
  ·rw [List.nodup_iff_pairwise_ne,List.pairwise_map]
   exact (need_sorted h v).imp fun {a b} hab e=>by have:(a:Int)=(b:Int):=e;omega
  ·rw [hs n,needP_iff,List.mem_map]
   constructor
   ·rintro ⟨a1,a2⟩
    have a3:=(hasP_iff h n).1 a1
    refine ⟨n.toNat,List.mem_filter.2 ⟨List.mem_range.2 (by omega),?_⟩,?_⟩
    ·rw [show ((n.toNat:Nat):Int)=n by omega];exact a2
    ·show ((n.toNat:Nat):Int)=n;omega
   ·rintro ⟨k,a1,rfl⟩
    obtain ⟨a2,a3⟩:=List.mem_filter.1 a1
    have a4:=List.mem_range.1 a2
    exact ⟨(hasP_iff h _).2 ⟨by show (0:Int)≤(k:Int);omega,by show (k:Int) < _;omega⟩,a3⟩
 rw [mergeSort_of_perm_i h1]
 refine List.mergeSort_of_pairwise ?_
 rw [List.pairwise_map]
 refine (need_sorted h v).imp fun {a b} hab=>?_
 show decide ((a:Int)≤(b:Int))=true
 rw [decide_eq_true_iff]
 omega
theorem need_few (h:List Ev) (v:Vd):((needN h v).map Int.ofNat).length≤h.length:=by rw [List.length_map];exact need_len h v
end Go.Proofs.YtkkenfhlgpjmjaaGreatDoor
namespace Go.Proofs.YtkkenfhlgpjmjaaGreatDoor
set_option maxRecDepth 100000
set_option linter.unusedVariables false
namespace Codec
def txP:Codec Int:=num 32
def plP:Codec Int:=num 255
def edP:Codec Ed:=pair (num 3) (pair txP (pair txP (pair plP plP)))
def pfP:Codec Pf:=pair plP (pair event (row 12 32))
def bdP:Codec (Int × Int × Int):=pair (num 4) (pair plP plP)
abbrev VdP:=Int × Int × List Int × (Int × Int × Int) × List Ed
def vdP:Codec VdP:=pair (num 2) (pair (num 1) (pair (many txP 32) (pair bdP (many edP 128))))
abbrev CtQ:=List UInt8 × Int × List UInt8 × List UInt8 × Int × VdP × List Pf
def ctQ:Codec CtQ:=pair (text 16) (pair (num 1048576) (pair (text 32) (pair (text 32) (pair (num 256) (pair vdP (many pfP 256))))))
def toVd (x:VdP):Vd:=(x.1,decide (x.2.1=1),x.2.2.1,x.2.2.2.1,x.2.2.2.2)
def toCq (x:CtQ):Ct:=(x.1,x.2.1,x.2.2.1,x.2.2.2.1,x.2.2.2.2.1,toVd x.2.2.2.2.2.1,x.2.2.2.2.2.2)
def ofCq (c:Ct):CtQ:=(c.1,c.2.1,c.2.2.1,c.2.2.2.1,c.2.2.2.2.1,(c.2.2.2.2.2.1.1,(if c.2.2.2.2.2.1.2.1=true then 1 else 0),c.2.2.2.2.2.1.2.2.1,c.2.2.2.2.2.1.2.2.2.1,c.2.2.2.2.2.1.2.2.2.2),c.2.2.2.2.2.2)
def cqK:Codec Ct:=map ctQ toCq ofCq
 (fun x h=>by
  obtain ⟨a,b,c,d,e,⟨f,g,o,k,r⟩,p⟩:=x
  have hg:0≤g∧g≤1:=by
   have:=h.2.2.2.2.2.1.2.1
   have h1:0≤g∧g≤(1:Nat)∧g.toNat < 2 ^ 64:=this
   omega
  unfold ofCq toCq toVd
  simp only [Prod.mk.injEq,true_and,and_true,decide_eq_true_eq]
  by_cases h1:g=1
  ·rw [if_pos h1,h1]
  ·rw [if_neg h1];omega)
 (fun c=>by
  obtain ⟨a,b,p,d,e,⟨f,g,o,k,r⟩,q⟩:=c
  unfold ofCq toCq toVd
  simp only [Prod.mk.injEq,true_and,and_true]
  cases g<;>simp)
end Codec
theorem cq_enc (c:Ct):Codec.cqK.enc c=bytC c:=by
 obtain ⟨a,b,p,d,e,⟨f,g,o,⟨k0,k1,k2⟩,r⟩,q⟩:=c
 have h1:∀ l:List Int,Codec.encs Codec.txP l=l.flatMap nb14:=encs_flat _ _ (fun _=>rfl)
 have h2:∀ l:List Ed,Codec.encs Codec.edP l=l.flatMap edY:=encs_flat _ _ (fun x=>by
  obtain ⟨x0,x1,x2,x3,x4⟩:=x
  show nb14 x0++(nb14 x1++(nb14 x2++(nb14 x3++nb14 x4)))=_
  unfold edY
  simp only [List.append_assoc])
 have h3:∀ l:List Pf,Codec.encs Codec.pfP l=l.flatMap pfY:=encs_flat _ _ (fun x=>by
  obtain ⟨x0,x1,x2⟩:=x
  show nb14 x0++(txtE (bytE x1)++(Lm.lenL x2.length++Lm.body x2))=_
  unfold pfY
  simp only [List.append_assoc])
 have hn:∀ n:Nat,nb14 (n:Int)=Lm.numL n:=fun n=>by unfold nb14;rw [Int.toNat_natCast]
 show txtE a++(nb14 b++(txtE p++(txtE d++(nb14 e++((nb14 f++(nb14 (if g=true then 1 else 0)++((Lm.numL o.length++Codec.encs Codec.txP o)++((nb14 k0++(nb14 k1++nb14 k2))++(Lm.numL r.length++Codec.encs Codec.edP r)))))++(Lm.numL q.length++Codec.encs Codec.pfP q))))))=_
 unfold bytC
 simp only [h1,h2,h3,hn,List.append_assoc]
theorem mayq_ok (c:Ct) (hc:mayC c):Codec.cqK.ok c:=by
 obtain ⟨a,b,p,d,e,⟨f,g,o,⟨k0,k1,k2⟩,r⟩,q⟩:=c
 obtain ⟨⟨a1,a2,a3,a4,a5,a6⟩,⟨⟨v1,v2,v3,⟨v4,v5⟩,v6⟩,v7,v8⟩,p1,p2⟩:=hc
 simp only at a1 a2 a3 a4 a5 a6 v1 v2 v3 v4 v5 v6 v7 v8 p1 p2
 have n:∀ (m:Nat) (x:Int),m≤1048576→0≤x→x≤m→(Codec.num m).ok x:=fun m x hm h1 h2=>⟨h1,h2,by show x.toNat < 2 ^ 64;omega⟩
 refine ⟨⟨a1.2,by show a.length≤65535;omega⟩,n _ b (by omega) (by omega) (by omega),⟨by show p.length≤32;omega,by show p.length≤65535;omega⟩,⟨by show d.length≤32;omega,by show d.length≤65535;omega⟩,n _ e (by omega) a5 (by omega),⟨n _ f (by omega) (by omega) (by omega),?_,⟨v2,by show o.length < 2 ^ 64;omega,fun x hx=>?_⟩,⟨n _ k0 (by omega) (by omega) (by omega),n _ k1 (by omega) (by omega) (by omega),n _ k2 (by omega) (by omega) (by omega)⟩,⟨v6,by show r.length < 2 ^ 64;omega,fun x hx=>?_⟩⟩,p1,by show q.length < 2 ^ 64;omega,fun x hx=>?_⟩
 ·show 0≤(if g=true then (1:Int) else 0)∧(if g=true then (1:Int) else 0)≤((1:Nat):Int)∧(if g=true then (1:Int) else 0).toNat < 2 ^ 64
  cases g<;>decide
 ·have:=v7 x hx;exact n _ x (by omega) (by omega) (by omega)
 ·obtain ⟨⟨e1,e2⟩,⟨⟨e3,e4⟩,e5,e6⟩,⟨e7,e8⟩,e9,e10⟩:=v8 x hx
  exact ⟨n _ _ (by omega) (by omega) (by omega),n _ _ (by omega) (by omega) (by omega),n _ _ (by omega) (by omega) (by omega),n _ _ (by omega) (by omega) (by omega),n _ _ (by omega) (by omega) (by omega)⟩
 ·obtain ⟨⟨⟨e1,e2⟩,e3⟩,e4,e5⟩:=p2 x hx
  refine ⟨n _ _ (by omega) e1 (by omega),e3,e4,by show x.2.2.length≤65535;omega,fun t ht=>?_⟩
  have:=e5 t ht
  omega
theorem takeC14_q (s:List UInt8):takeC14 s=match Codec.whole Codec.cqK s with
 | some c=>if mayC c then some c else none
 | none=>none:=by
 cases ht:takeC14 s with
 | some c =>
   obtain ⟨h1,h2⟩:=take14_only s c ht
   have:=Codec.whole_back Codec.cqK c [] (mayq_ok c h1)
   rw [List.append_nil,if_pos rfl,cq_enc,h2] at this
   rw [this]
   simp only
   rw [if_pos h1]
 | none =>
   cases hw:Codec.whole Codec.cqK s with
   | none=>rfl
   | some c =>
     simp only
     by_cases hm:mayC c
     ·exfalso
      have:=Codec.whole_only Codec.cqK s c hw
      rw [cq_enc] at this
      have h2:=take14_back c hm
      rw [this.2,ht] at h2
      cases h2
     ·rw [if_neg hm]
end Go.Proofs.YtkkenfhlgpjmjaaGreatDoor
namespace Go.Proofs.YtkkenfhlgpjmjaaGreatDoor
set_option maxRecDepth 100000
open Go.RowKit
attribute [local go_sem] ba_size ba_get ba_extract ba_append wrap_byte wrap_u64_byte take_drop_end
set_option maxHeartbeats 1000000 in
theorem takeRow_new (s:List UInt8) (many most:Int) (w:World) (hs:s.length≤9223372036854775807) :
 Calls Tryz.prog 237 #[.string ⟨s.toArray⟩,.int .i64 many,.int .i64 most] w fun e w'=>(∃ a n cap,e=.returned (.tuple #[.slice a n cap,.string ⟨(Lm.takeRowL s many most).2.1.toArray⟩,.int .i64 ((Lm.takeRowL s many most).2.2:Int)])∧IsStrs w' a n (Lm.takeRowL s many most).1∧w'.ownsRow w.heap.size 9 1 (.slice a n cap) n (strV (Lm.takeRowL s many most).1))∧Below w.heap.size w w':=by
 have hbd:=takeLenL_bd s many
 have hc:=takeLength_any s many w hs
 unfold Lm.takeRowL
 generalize Lm.takeLenL s many=x at *
 obtain ⟨n,rest,e⟩:=x
 have HC:Hid (Calls Tryz.prog 235 #[.string ⟨s.toArray⟩,.int .i64 many] w fun e' w'=>e'=.returned (.tuple #[.int .i64 (n:Int),.string ⟨rest.toArray⟩,.int .i64 (e:Int)])∧Below w.heap.size w w'):=hc
 simp only at hbd
 clear hc
 by_cases he:e≠0
 ·simp only [he,ne_eq,not_false_eq_true,if_true]
  have hb:((e:Int)==0)=false:=by simp;omega
  go_enter Tryz.func237,Tryz.ntmps237
  go_wp2_with fail
  refine HC.out.mono ?_
  rintro e w1 ⟨rfl,hb1⟩
  go_wp2_with fail
  go_ret3
  exact ⟨⟨none,0,0,rfl,⟨rfl,by simp,by omega,.inl rfl⟩,⟨rfl,.inl ⟨rfl,rfl⟩⟩⟩,hb1⟩
 ·have he':e=0:=by omega
  subst he'
  clear he
  simp only [ne_eq,not_true_eq_false,if_false]
  obtain ⟨i0,hi,hz0,hz1,hz2⟩:=info_parts str_info
  obtain ⟨hn,hrs⟩:=hbd
  have hrl:rest.length≤9223372036854775807:=by omega
  by_cases hmin:rest.length < n
  ·have hmn:min (n:Int) (rest.length:Int)=(rest.length:Int):=by omega
   go_enter Tryz.func237,Tryz.ntmps237
   go_wp2_with fail
   refine HC.out.mono ?_
   rintro e w1 ⟨rfl,hb1⟩
   go_wp2_with (at_make;refine wpList_make_own _ rfl _ _ 59 rfl w.heap.size 9 i0 (.string ByteArray.empty) 1 Tryz.underlying59 hi hz0 hz1 .i64 .i64 _ rest.length rfl rfl rfl ?c1 ?c2 ?c3 ?_)
   case c1=>rw [hz2];omega
   case c2=>unfold maxLen;omega
   case c3=>have:=hb1.size;omega
   intro w2 hown2 hgrow2
   have hbw:Below w.heap.size w w2:=hb1.grown hgrow2 hb1.size (by intro k hk;cases hk)
   clear hb1 hgrow2
   have HP0:Hid (Lm.takeN n rest most=Lm.pre [] (Lm.takeN (n - 0) rest most)):=(Lm.pre_nil _ (Lm.takeN_bad n rest most)).symm
   have HO2:Hid (w2.ownsRow w.heap.size 9 1 (.slice (some ⟨w1.heap.size,0,none⟩) 0 rest.length) 0 (strV [])):=hown2
   clear hown2
   go_wp2_with fail
   go_loopw [10,12,30] (fun r v i wr=>∃ (k:Nat) (l:List (List UInt8)) (q:List UInt8),k≤n∧i=.int .i64 k∧r=.string ⟨q.toArray⟩∧q.length≤9223372036854775807∧Hid (wr.ownsRow w.heap.size 9 1 v k (strV l))∧Hid (∀ t∈l,t.length≤65535)∧Hid (Lm.takeN n rest most=Lm.pre l (Lm.takeN (n - k) q most))∧Below w.heap.size w wr)
    (fun _ _ i _=>n - (RowKit.intOf i).toNat)
   case atStart=>exact ⟨0,[],rest,Nat.zero_le _,rfl,rfl,hrl,HO2,(fun t ht=>by cases ht),HP0,hbw⟩
   case round =>
    obtain ⟨k,l,q,hk,rfl,rfl,hql,HO,HA,HP,hbk⟩:=hrel
    by_cases hlt:k < n
    ·obtain ⟨m,hm⟩:∃ m,n - k=m+1:=⟨n - k - 1,by omega⟩
     have HM:Hid (n - k=m+1):=hm
     clear hm
     have hbt:=takeTextL_bd q most
     have hct:=takeText_any q most wr hql
     have hstep:((Lm.takeTextL q most).2.2≠0∧Lm.takeN n rest most=([],[],(Lm.takeTextL q most).2.2))∨((Lm.takeTextL q most).2.2=0∧Lm.takeN n rest most=Lm.pre (l++[(Lm.takeTextL q most).1]) (Lm.takeN (n - (k+1)) (Lm.takeTextL q most).2.1 most)):=by
      have hp:=HP.out
      rw [HM.out] at hp
      have hm1:n - (k+1)=m:=by have:=HM.out;omega
      by_cases h0:(Lm.takeTextL q most).2.2=0
      ·right;exact ⟨h0,by rw [hp,Lm.pre_step_ok l m q most h0,hm1]⟩
      ·left;exact ⟨h0,by rw [hp,Lm.pre_step_bad l m q most h0]⟩
     generalize Lm.takeTextL q most=y at *
     obtain ⟨t,q',e'⟩:=y
     have HCT:Hid (Calls Tryz.prog 176 #[.string ⟨q.toArray⟩,.int .i64 most] wr fun e w'=>e=.returned (.tuple #[.string ⟨t.toArray⟩,.string ⟨q'.toArray⟩,.int .i64 (e':Int)])∧Below wr.heap.size wr w'):=hct
     clear hct
     simp only at hbt
     obtain ⟨hbt1,hbt2⟩:=hbt
     rcases hstep with ⟨h0,hF⟩ | ⟨h0,hF⟩
     ·have HF:Hid (Lm.takeN n rest most=([],[],e')):=hF
      have hb:((e':Int)==0)=false:=by simp at h0 ⊢;omega
      clear hF h0
      go_wp2_with fail
      refine HCT.out.mono ?_
      rintro e w3 ⟨rfl,hb3⟩
      go_wp2_with fail
      go_ret3
      refine ⟨⟨none,0,0,?_,?_,by rw [HF.out];exact ⟨rfl,.inl ⟨rfl,rfl⟩⟩⟩,bel_trans hbk hb3⟩
      ·rw [HF.out];rfl
      ·rw [HF.out];exact ⟨rfl,by simp,by omega,.inl rfl⟩
     ·have HF:Hid (Lm.takeN n rest most=Lm.pre (l++[t]) (Lm.takeN (n - (k+1)) q' most)):=hF
      have h0':e'=0:=h0
      subst h0'
      clear hF h0
      go_wp2_with fail
      refine HCT.out.mono ?_
      rintro e w3 ⟨rfl,hb3⟩
      have hown3:w3.ownsRow w.heap.size 9 1 u12 k (strV l):=owns_below HO.out hb3
      have hs3:=hb3.size
      have hs4:=hbk.size
      go_wp2_with (at_builtin;refine wpList_append_own _ rfl _ _ 59 rfl w.heap.size 9 i0 (.string ByteArray.empty) 1 16 Tryz.underlying59 hi hz0 hz1 hz2 rfl (by decide) _ _ _ rfl (hown3.alloc _) ⟨w3.heap.size,0,none⟩ 1 1 [.string ⟨t.toArray⟩] rfl rfl ?d1 ?d2 ?d3 ?d4 ?d5 ?_)
      case d1 =>
       intro j u hj
       match j,hj with
       | 0,hj=>simp at hj;subst hj;simp [Addr.add]
      case d2=>intro u hu;simp at hu;subst hu;rfl
      case d3=>unfold maxLen;omega
      case d4=>omega
      case d5=>simp;omega
      intro v' w4 hown4 hgrow4 _
      have HO4:Hid (w4.ownsRow w.heap.size 9 1 v' (k+1) (strV (l++[t]))):=by
       show w4.ownsRow _ _ _ _ _ _
       rw [strV_snoc];exact hown4
      have hbk4:Below w.heap.size w w4:=((bel_trans hbk hb3).alloc (by omega) _).grown hgrow4 (by simp;omega) (fun j hj=>(hown3.lt j hj).1)
      have HA4:Hid (∀ x∈l++[t],x.length≤65535):=by
       intro x hx
       rcases List.mem_append.1 hx with h | h
       ·exact HA.out x h
       ·simp at h;subst h;exact hbt1
      clear hown4 hgrow4 hown3 hb3
      go_wp2
      go_roundw
      case rel=>exact ⟨k+1,l++[t],q',by omega,by go_num,rfl,by omega,HO4,HA4,HF,hbk4⟩
      case measure=>simp [RowKit.intOf];omega
    ·obtain rfl:k=n:=by omega
     have HF:Hid (Lm.takeN k rest most=(l,q,0)):=by
      show Lm.takeN k rest most=_
      rw [HP.out,Nat.sub_self,Lm.takeN]
      simp [Lm.pre]
     obtain ⟨a,cap,hv,hst⟩:=strs_own HO.out hn HA.out
     have HV:Hid (u12=.slice a k cap):=hv
     have HST:Hid (IsStrs wr a k l):=hst
     clear hv hst
     go_wp2
     go_ret3
     refine ⟨⟨a,k,cap,?_,?_,by rw [HF.out,← HV.out];exact HO.out⟩,hbk⟩
     ·rw [HF.out,← HV.out];rfl
     ·rw [HF.out];exact HST.out
  ·have hmn:min (n:Int) (rest.length:Int)=(n:Int):=by omega
   go_enter Tryz.func237,Tryz.ntmps237
   go_wp2_with fail
   refine HC.out.mono ?_
   rintro e w1 ⟨rfl,hb1⟩
   go_wp2_with (at_make;refine wpList_make_own _ rfl _ _ 59 rfl w.heap.size 9 i0 (.string ByteArray.empty) 1 Tryz.underlying59 hi hz0 hz1 .i64 .i64 _ n rfl rfl rfl ?c1 ?c2 ?c3 ?_)
   case c1=>rw [hz2];omega
   case c2=>unfold maxLen;omega
   case c3=>have:=hb1.size;omega
   intro w2 hown2 hgrow2
   have hbw:Below w.heap.size w w2:=hb1.grown hgrow2 hb1.size (by intro k hk;cases hk)
   clear hb1 hgrow2
   have HP0:Hid (Lm.takeN n rest most=Lm.pre [] (Lm.takeN (n - 0) rest most)):=(Lm.pre_nil _ (Lm.takeN_bad n rest most)).symm
   have HO2:Hid (w2.ownsRow w.heap.size 9 1 (.slice (some ⟨w1.heap.size,0,none⟩) 0 n) 0 (strV [])):=hown2
   clear hown2
   go_wp2_with fail
   go_loopw [10,12,30] (fun r v i wr=>∃ (k:Nat) (l:List (List UInt8)) (q:List UInt8),k≤n∧i=.int .i64 k∧r=.string ⟨q.toArray⟩∧q.length≤9223372036854775807∧Hid (wr.ownsRow w.heap.size 9 1 v k (strV l))∧Hid (∀ t∈l,t.length≤65535)∧Hid (Lm.takeN n rest most=Lm.pre l (Lm.takeN (n - k) q most))∧Below w.heap.size w wr)
    (fun _ _ i _=>n - (RowKit.intOf i).toNat)
   case atStart=>exact ⟨0,[],rest,Nat.zero_le _,rfl,rfl,hrl,HO2,(fun t ht=>by cases ht),HP0,hbw⟩
   case round =>
    obtain ⟨k,l,q,hk,rfl,rfl,hql,HO,HA,HP,hbk⟩:=hrel
    by_cases hlt:k < n
    ·obtain ⟨m,hm⟩:∃ m,n - k=m+1:=⟨n - k - 1,by omega⟩
     have HM:Hid (n - k=m+1):=hm
     clear hm
     have hbt:=takeTextL_bd q most
     have hct:=takeText_any q most wr hql
     have hstep:((Lm.takeTextL q most).2.2≠0∧Lm.takeN n rest most=([],[],(Lm.takeTextL q most).2.2))∨((Lm.takeTextL q most).2.2=0∧Lm.takeN n rest most=Lm.pre (l++[(Lm.takeTextL q most).1]) (Lm.takeN (n - (k+1)) (Lm.takeTextL q most).2.1 most)):=by
      have hp:=HP.out
      rw [HM.out] at hp
      have hm1:n - (k+1)=m:=by have:=HM.out;omega
      by_cases h0:(Lm.takeTextL q most).2.2=0
      ·right;exact ⟨h0,by rw [hp,Lm.pre_step_ok l m q most h0,hm1]⟩
      ·left;exact ⟨h0,by rw [hp,Lm.pre_step_bad l m q most h0]⟩
     generalize Lm.takeTextL q most=y at *
     obtain ⟨t,q',e'⟩:=y
     have HCT:Hid (Calls Tryz.prog 176 #[.string ⟨q.toArray⟩,.int .i64 most] wr fun e w'=>e=.returned (.tuple #[.string ⟨t.toArray⟩,.string ⟨q'.toArray⟩,.int .i64 (e':Int)])∧Below wr.heap.size wr w'):=hct
     clear hct
     simp only at hbt
     obtain ⟨hbt1,hbt2⟩:=hbt
     rcases hstep with ⟨h0,hF⟩ | ⟨h0,hF⟩
     ·have HF:Hid (Lm.takeN n rest most=([],[],e')):=hF
      have hb:((e':Int)==0)=false:=by simp at h0 ⊢;omega
      clear hF h0
      go_wp2_with fail
      refine HCT.out.mono ?_
      rintro e w3 ⟨rfl,hb3⟩
      go_wp2_with fail
      go_ret3
      refine ⟨⟨none,0,0,?_,?_,by rw [HF.out];exact ⟨rfl,.inl ⟨rfl,rfl⟩⟩⟩,bel_trans hbk hb3⟩
      ·rw [HF.out];rfl
      ·rw [HF.out];exact ⟨rfl,by simp,by omega,.inl rfl⟩
     ·have HF:Hid (Lm.takeN n rest most=Lm.pre (l++[t]) (Lm.takeN (n - (k+1)) q' most)):=hF
      have h0':e'=0:=h0
      subst h0'
      clear hF h0
      go_wp2_with fail
      refine HCT.out.mono ?_
      rintro e w3 ⟨rfl,hb3⟩
      have hown3:w3.ownsRow w.heap.size 9 1 u12 k (strV l):=owns_below HO.out hb3
      have hs3:=hb3.size
      have hs4:=hbk.size
      go_wp2_with (at_builtin;refine wpList_append_own _ rfl _ _ 59 rfl w.heap.size 9 i0 (.string ByteArray.empty) 1 16 Tryz.underlying59 hi hz0 hz1 hz2 rfl (by decide) _ _ _ rfl (hown3.alloc _) ⟨w3.heap.size,0,none⟩ 1 1 [.string ⟨t.toArray⟩] rfl rfl ?d1 ?d2 ?d3 ?d4 ?d5 ?_)
      case d1 =>
       intro j u hj
       match j,hj with
       | 0,hj=>simp at hj;subst hj;simp [Addr.add]
      case d2=>intro u hu;simp at hu;subst hu;rfl
      case d3=>unfold maxLen;omega
      case d4=>omega
      case d5=>simp;omega
      intro v' w4 hown4 hgrow4 _
      have HO4:Hid (w4.ownsRow w.heap.size 9 1 v' (k+1) (strV (l++[t]))):=by
       show w4.ownsRow _ _ _ _ _ _
       rw [strV_snoc];exact hown4
      have hbk4:Below w.heap.size w w4:=((bel_trans hbk hb3).alloc (by omega) _).grown hgrow4 (by simp;omega) (fun j hj=>(hown3.lt j hj).1)
      have HA4:Hid (∀ x∈l++[t],x.length≤65535):=by
       intro x hx
       rcases List.mem_append.1 hx with h | h
       ·exact HA.out x h
       ·simp at h;subst h;exact hbt1
      clear hown4 hgrow4 hown3 hb3
      go_wp2
      go_roundw
      case rel=>exact ⟨k+1,l++[t],q',by omega,by go_num,rfl,by omega,HO4,HA4,HF,hbk4⟩
      case measure=>simp [RowKit.intOf];omega
    ·obtain rfl:k=n:=by omega
     have HF:Hid (Lm.takeN k rest most=(l,q,0)):=by
      show Lm.takeN k rest most=_
      rw [HP.out,Nat.sub_self,Lm.takeN]
      simp [Lm.pre]
     obtain ⟨a,cap,hv,hst⟩:=strs_own HO.out hn HA.out
     have HV:Hid (u12=.slice a k cap):=hv
     have HST:Hid (IsStrs wr a k l):=hst
     clear hv hst
     go_wp2
     go_ret3
     refine ⟨⟨a,k,cap,?_,?_,by rw [HF.out,← HV.out];exact HO.out⟩,hbk⟩
     ·rw [HF.out,← HV.out];rfl
     ·rw [HF.out];exact HST.out
set_option maxHeartbeats 400000 in
theorem take_ok (b:UInt8) (r:List UInt8) (w:World) (hs:r.length+1≤9223372036854775807) (h8:b.toNat≤8) (hl:b.toNat≤r.length) (hz:¬ (0 < b.toNat∧r.head?=some 0)) :
 Calls Tryz.prog 177 #[.string ⟨(b::r).toArray⟩] w fun e w'=>e=.returned (.tuple #[.int .u64 (Lm.val (r.take b.toNat)),.string ⟨(r.drop b.toNat).toArray⟩,.int .i64 0])∧Below w.heap.size w w':=by
 have HH:Hid (∀ k,k≤b.toNat→Lm.val (r.take k) < 256 ^ k):=fun k hk=>by
  have:=Lm.val_lt (r.take k);rwa [List.length_take_of_le (by omega)] at this
 have hgo:b.toNat=0∨∃ hr0:0 < r.length,((r[0].toNat:Int)==0)=false:=by
  by_cases h0:0 < b.toNat
  ·have hr0:0 < r.length:=by omega
   refine .inr ⟨hr0,?_⟩
   cases r with
   | nil=>simp at hr0
   | cons a r =>
     simp only [List.head?_cons,Option.some.injEq,h0,true_and] at hz
     simp only [List.getElem_cons_zero,beq_eq_false_iff_ne,ne_eq]
     intro h;apply hz;apply UInt8.toNat_inj.1;simpa using h
  ·exact .inl (by omega)
 clear hz
 have hgo':¬ 0 < b.toNat∨(0 < b.toNat∧∃ hr0:0 < r.length,((r[0].toNat:Int)==0)=false):=by
  rcases hgo with h | h
  ·exact .inl (by omega)
  ·by_cases h0:0 < b.toNat
   ·exact .inr ⟨h0,h⟩
   ·exact .inl h0
 clear hgo
 rcases hgo' with h0 | ⟨h0,hr0,hrz⟩
 all_goals
  go_enter Tryz.func177,Tryz.ntmps177
  go_wp2
  go_quiet (fail)
  go_wp2
  go_loop [7,33] (fun a i=>∃ k:Nat,k≤b.toNat∧i=.int .i64 k∧a=.int .u64 (Lm.val (r.take k))) (fun _ i=>b.toNat - (RowKit.intOf i).toNat)
  case atStart=>exact ⟨0,Nat.zero_le _,rfl,rfl⟩
  case round =>
   obtain ⟨k,hk,rfl,rfl⟩:=hrel
   by_cases hlt:k < b.toNat
   ·have hkr:k < r.length:=by omega
    have hb1:=HH.out k hk
    have hb2:Lm.val (r.take k) < 72057594037927936:=by
     have:256 ^ k≤256 ^ 7:=Nat.pow_le_pow_right (by omega) (by omega)
     have e:(256:Nat) ^ 7=72057594037927936:=by decide
     omega
    have hor:Lm.val (r.take (k+1))=256*Lm.val (r.take k)+r[k].toNat:=by
     rw [List.take_succ_eq_append_getElem hkr,Lm.val_snoc]
    have HO:Hid _:=hor
    clear hb1 hor
    have hob:=or_byte (Lm.val (r.take k)) r[k] hb2
    go_wp2
    go_round
    case rel=>exact ⟨k+1,by omega,by go_num,by rw [HO.out];rfl⟩
    case measure=>simp [RowKit.intOf];omega
   ·obtain rfl:k=b.toNat:=by omega
    go_wp2
    go_quiet (fail)
    go_wp2
    go_ret3
    exact ⟨rfl,below_drewN (below_drewN (Below.refl _ _) _) _⟩
set_option maxHeartbeats 400000 in
theorem takeNum_any (l:List UInt8) (w:World) (hs:l.length≤9223372036854775807) :
 Calls Tryz.prog 177 #[.string ⟨l.toArray⟩] w fun e w'=>e=.returned (.tuple #[.int .u64 ((Lm.takeNumL l).1:Int),.string ⟨(Lm.takeNumL l).2.1.toArray⟩,.int .i64 ((Lm.takeNumL l).2.2:Int)])∧Below w.heap.size w w':=by
 match l,hs with
 | [],_ =>
   go_enter Tryz.func177,Tryz.ntmps177
   go_wp2
   go_ret3
   exact ⟨rfl,Below.refl _ _⟩
 | b::r,hs =>
   simp only [List.length_cons] at hs
   rw [Lm.takeNumL]
   by_cases h8:8 < b.toNat
   ·rw [if_pos h8]
    go_enter Tryz.func177,Tryz.ntmps177
    go_wp2
    go_quiet (fail)
    go_wp2
    go_ret3
    exact ⟨rfl,below_drewN (Below.refl _ _) _⟩
   rw [if_neg h8]
   by_cases hl:r.length < b.toNat
   ·rw [if_pos hl]
    go_enter Tryz.func177,Tryz.ntmps177
    go_wp2
    go_quiet (fail)
    go_wp2
    go_ret3
    exact ⟨rfl,below_drewN (Below.refl _ _) _⟩
   rw [if_neg hl]
   by_cases hz:0 < b.toNat∧r.head?=some 0
   ·rw [if_pos hz]
    obtain ⟨h0,hz⟩:=hz
    match r,hz with
    | a::r,hz =>
      simp only [List.head?_cons,Option.some.injEq] at hz
      subst hz
      simp only [List.length_cons] at hs hl
      go_enter Tryz.func177,Tryz.ntmps177
      go_wp2
      go_quiet (fail)
      go_wp2
      go_ret3
      exact ⟨rfl,below_drewN (Below.refl _ _) _⟩
   rw [if_neg hz]
   exact take_ok b r w hs (by omega) (by omega) hz
end Go.Proofs.YtkkenfhlgpjmjaaGreatDoor
namespace Go.Proofs.YtkkenfhlgpjmjaaGreatDoor
set_option maxRecDepth 100000
open Go.RowKit
set_option linter.unusedVariables false
attribute [local go_sem] ba_size
abbrev RB (W:World) (pb:Nat) (R:List UInt8):Prop:=SBox W pb 110 #[.string ⟨R.toArray⟩]
abbrev fault14:List PanicEntry:=[{ v:=.iface 36 (.int .i64 3),recovered:=false }]
def Rd {α:Type} (W:World) (pb:Nat) (o:Option (α × List UInt8)) (V:World→α→Value→Prop) (e:Ending) (W':World):Prop :=
 W.grownBy W' (some pb)∧match o with
 | some (a,r)=>∃ v,e=.returned v∧V W' a v∧RB W' pb r
 | none=>e=.panicked fault14
theorem grown_set14 (w:World) (b k:Nat) (u:Value):w.grownBy (w.setCell ⟨b,k,none⟩ u) (some b) :=
 ⟨rfl,rfl,rfl,by simp [World.setCell],fun i hi hne=>Below.heap_setCell w ⟨b,k,none⟩ u i (fun e=>hne (by rw [e]))⟩
theorem dec_less {α:Type} (A:Codec α) {s r:List UInt8} {a:α} (h:A.dec s=some (a,r)):r.length≤s.length:=by
 have:=(A.only s a r h).2
 rw [← this,List.length_append]
 omega
theorem pwant14_yes (w:World):Calls Tryz.prog 52 #[.bool true] w fun e w'=>e=.returned (.tuple #[])∧w'=w:=by
 go_enter Tryz.func52,Tryz.ntmps52
 go_wp2
 go_end0
 exact ⟨rfl,rfl⟩
theorem pwant14_no (w:World):Calls Tryz.prog 52 #[.bool false] w fun e w'=>e=.panicked fault14∧w'=w:=by
 go_enter Tryz.func52,Tryz.ntmps52
 go_wp2
 exact ⟨rfl,rfl,rfl⟩
set_option maxHeartbeats 1000000 in
theorem pnum14 (m:Nat) (hm:m≤1048576) (R:List UInt8) (hR:R.length≤9223372036854775807) (pb:Nat) (w:World) (hb:RB w pb R) :
 Calls Tryz.prog 111 #[.pointer (some ⟨pb,0,none⟩),.int .i64 m] w fun e w'=>Rd w pb ((Codec.num m).dec R) (fun _ n v=>v=.int .i64 n∧0≤n∧n≤m) e w':=by
 show Calls _ _ _ _ fun e w'=>Rd w pb (if (Lm.takeNumL R).2.2≠0∨m < (Lm.takeNumL R).1 then none else some (((Lm.takeNumL R).1:Int),(Lm.takeNumL R).2.1)) (fun _ n v=>v=.int .i64 n∧0≤n∧n≤m) e w'
 have D:=takeNum_any R w hR
 generalize Lm.takeNumL R=x at *
 obtain ⟨n,r,g⟩:=x
 simp only at D ⊢
 have hwm:IntKind.u64.wrap (m:Int)=(m:Int):=by rw [IntKind.wrap_u64];omega
 have c0:w.cell? ⟨pb,0,none⟩=some (.string ⟨R.toArray⟩):=hb.cell 0 _ rfl
 have fin:∀ w1,Below w.heap.size w w1→w.grownBy (w1.setCell ⟨pb,0,none⟩ (.string ⟨r.toArray⟩)) (some pb):=fun w1 b1=>(grown_below8 (some pb) b1).trans (grown_set14 w1 pb 0 _)
 by_cases hg:g=0
 ·subst hg
  by_cases hn:m < n
  ·rw [if_pos (.inr hn)]
   have hle:¬ (n:Int)≤(m:Int):=by omega
   go_enter Tryz.func111,Tryz.ntmps111
   go_wp2_with fail
   refine D.mono ?_
   rintro e w1 ⟨rfl,b1⟩
   have h1:=hb.below b1
   have f1:=h1.frozen 0
   have c1:w1.cell? ⟨pb,0,none⟩=some (.string ⟨R.toArray⟩):=h1.cell 0 _ rfl
   go_wp2_with fail
   rw [show decide (n≤m)=false by rw [decide_eq_false_iff_not];omega]
   refine (pwant14_no _).mono ?_
   rintro e w2 ⟨rfl,rfl⟩
   exact ⟨rfl,fin w1 b1,rfl⟩
  ·rw [if_neg (c:=0≠0∨m < n) (by omega)]
   have hle:(n:Int)≤(m:Int):=by omega
   have hwn:IntKind.i64.wrap (n:Int)=(n:Int):=by rw [IntKind.wrap_i64];omega
   go_enter Tryz.func111,Tryz.ntmps111
   go_wp2_with fail
   refine D.mono ?_
   rintro e w1 ⟨rfl,b1⟩
   have h1:=hb.below b1
   have f1:=h1.frozen 0
   have c1:w1.cell? ⟨pb,0,none⟩=some (.string ⟨R.toArray⟩):=h1.cell 0 _ rfl
   go_wp2_with fail
   refine (pwant14_yes _).mono ?_
   rintro e w2 ⟨rfl,rfl⟩
   go_wp2_with fail
   go_ret
   exact ⟨fin w1 b1,_,rfl,⟨rfl,by omega,by omega⟩,h1.set 0 _⟩
 ·rw [if_pos (.inl hg)]
  have hgb:((g:Int)==0)=false:=by simpa using hg
  go_enter Tryz.func111,Tryz.ntmps111
  go_wp2_with fail
  refine D.mono ?_
  rintro e w1 ⟨rfl,b1⟩
  have h1:=hb.below b1
  have f1:=h1.frozen 0
  have c1:w1.cell? ⟨pb,0,none⟩=some (.string ⟨R.toArray⟩):=h1.cell 0 _ rfl
  go_wp2_with fail
  refine (pwant14_no _).mono ?_
  rintro e w2 ⟨rfl,rfl⟩
  exact ⟨rfl,fin w1 b1,rfl⟩
set_option maxHeartbeats 1000000 in
theorem ptext14 (m:Nat) (R:List UInt8) (hR:R.length≤9223372036854775807) (pb:Nat) (w:World) (hb:RB w pb R) :
 Calls Tryz.prog 110 #[.pointer (some ⟨pb,0,none⟩),.int .i64 m] w fun e w'=>Rd w pb ((Codec.text m).dec R) (fun _ t v=>v=.string ⟨t.toArray⟩∧t.length≤R.length) e w':=by
 have HB:∀ t r,(Codec.text m).dec R=some (t,r)→t.length≤R.length:=fun t r h=>by
  have:=((Codec.text m).only R t r h).2
  have e2:txtE t++r=R:=this
  rw [← e2];unfold txtE;simp;omega
 have E:(Codec.text m).dec R=if (Lm.takeTextL R m).2.2≠0 then none else some ((Lm.takeTextL R m).1,(Lm.takeTextL R m).2.1):=rfl
 rw [E] at HB ⊢
 have D:=takeText_any R m w hR
 generalize Lm.takeTextL R m=x at *
 obtain ⟨n,r,g⟩:=x
 simp only at D HB ⊢
 have fin:∀ w1,Below w.heap.size w w1→w.grownBy (w1.setCell ⟨pb,0,none⟩ (.string ⟨r.toArray⟩)) (some pb):=fun w1 b1=>(grown_below8 (some pb) b1).trans (grown_set14 w1 pb 0 _)
 have c0:w.cell? ⟨pb,0,none⟩=some (.string ⟨R.toArray⟩):=hb.cell 0 _ rfl
 by_cases hg:g=0
 ·subst hg
  rw [if_neg (by simp)] at HB ⊢
  go_enter Tryz.func110,Tryz.ntmps110
  go_wp2_with fail
  refine D.mono ?_
  rintro e w1 ⟨rfl,b1⟩
  have h1:=hb.below b1
  have f1:=h1.frozen 0
  have c1:w1.cell? ⟨pb,0,none⟩=some (.string ⟨R.toArray⟩):=h1.cell 0 _ rfl
  go_wp2_with fail
  refine (pwant14_yes _).mono ?_
  rintro e w2 ⟨rfl,rfl⟩
  go_wp2_with fail
  go_ret
  exact ⟨fin w1 b1,_,rfl,⟨rfl,HB _ _ rfl⟩,h1.set 0 _⟩
 ·rw [if_pos hg]
  have hgb:((g:Int)==0)=false:=by simpa using hg
  go_enter Tryz.func110,Tryz.ntmps110
  go_wp2_with fail
  refine D.mono ?_
  rintro e w1 ⟨rfl,b1⟩
  have h1:=hb.below b1
  have f1:=h1.frozen 0
  have c1:w1.cell? ⟨pb,0,none⟩=some (.string ⟨R.toArray⟩):=h1.cell 0 _ rfl
  go_wp2_with fail
  refine (pwant14_no _).mono ?_
  rintro e w2 ⟨rfl,rfl⟩
  exact ⟨rfl,fin w1 b1,rfl⟩
def TxB (B:Nat) (W:World) (v:Value) (l:List (List UInt8)):Prop:=W.ownsRow B 9 1 v l.length (strV l)∧l.length≤140737488351232∧∀ t∈l,t.length≤1125899906842624
theorem TxB.kept {B x:Nat} {W W':World} {v:Value} {l:List (List UInt8)} (h:TxB B W v l) (hg:W.grownBy W' (some x)) (hx:x < B):TxB B W' v l:=by
 refine ⟨h.1.kept hg ?_,h.2⟩
 cases hv:v.ownBlock with
 | none=>exact .inl rfl
 | some g=>exact .inr (fun e=>by have:=(h.1.lt g hv).1;cases e;omega)
theorem owns_base14 {B C e k n:Nat} {v:Value} {xs:List Value} {W:World} (h:W.ownsRow B e k v n xs) (hBC:C≤B):W.ownsRow C e k v n xs:=by
 refine ⟨h.1,?_⟩
 rcases h.2 with h2 | ⟨g,cap,cur,h3,h4,h5⟩
 ·exact .inl h2
 ·exact .inr ⟨g,cap,cur,h3,Nat.le_trans hBC h4,h5⟩
theorem owns_later14 {B e k n x:Nat} {v:Value} {xs:List Value} {W W':World} (h:W.ownsRow B e k v n xs) (hg:W.grownBy W' (some x)) (hx:x < B):W'.ownsRow B e k v n xs:=by
 refine h.kept hg ?_
 cases hv:v.ownBlock with
 | none=>exact .inl rfl
 | some g=>exact .inr (fun e=>by have:=(h.lt g hv).1;cases e;omega)
theorem owns_slice14 {B e k n:Nat} {v:Value} {xs:List Value} {W:World} (h:W.ownsRow B e k v n xs):∃ a cap,v=.slice a n cap:=by
 rcases h.2 with ⟨rfl,rfl⟩ | ⟨g,cap,cur,rfl,_⟩
 ·exact ⟨none,0,rfl⟩
 ·exact ⟨_,cap,rfl⟩
theorem TxB.base {B C:Nat} {W:World} {v:Value} {l:List (List UInt8)} (h:TxB B W v l) (hBC:C≤B):TxB C W v l:=⟨owns_base14 h.1 hBC,h.2⟩
theorem TxB.txt {B:Nat} {W:World} {v:Value} {l:List (List UInt8)} (h:TxB B W v l):IsTxt W v l:=IsTxt.own h.1 h.2.1 h.2.2
set_option maxHeartbeats 1000000 in
theorem ppath14 (R:List UInt8) (hR:R.length≤9223372036854775807) (pb:Nat) (w:World) (hb:RB w pb R) :
 Calls Tryz.prog 184 #[.pointer (some ⟨pb,0,none⟩)] w fun e w'=>Rd w pb ((Codec.row 12 32).dec R) (fun W l v=>TxB w.heap.size W v l) e w':=by
 have E:(Codec.row 12 32).dec R=if (Lm.takeRowL R 12 32).2.2≠0 then none else some ((Lm.takeRowL R 12 32).1,(Lm.takeRowL R 12 32).2.1):=rfl
 rw [E]
 have D:=takeRow_new R 12 32 w hR
 generalize Lm.takeRowL R 12 32=x at *
 obtain ⟨n,r,g⟩:=x
 simp only at D ⊢
 have fin:∀ w1,Below w.heap.size w w1→w.grownBy (w1.setCell ⟨pb,0,none⟩ (.string ⟨r.toArray⟩)) (some pb):=fun w1 b1=>(grown_below8 (some pb) b1).trans (grown_set14 w1 pb 0 _)
 have c0:w.cell? ⟨pb,0,none⟩=some (.string ⟨R.toArray⟩):=hb.cell 0 _ rfl
 have hlt:=hb.lt
 by_cases hg:g=0
 ·subst hg
  rw [if_neg (by simp)]
  go_enter Tryz.func184,Tryz.ntmps184
  go_wp2_with fail
  refine D.mono ?_
  rintro e w1 ⟨⟨a,k,cap,rfl,hS,hN⟩,b1⟩
  have h1:=hb.below b1
  have f1:=h1.frozen 0
  have c1:w1.cell? ⟨pb,0,none⟩=some (.string ⟨R.toArray⟩):=h1.cell 0 _ rfl
  go_wp2_with fail
  refine (pwant14_yes _).mono ?_
  rintro e w2 ⟨rfl,rfl⟩
  go_wp2_with fail
  go_ret
  have hk:k=n.length:=hS.1.symm
  refine ⟨fin w1 b1,_,rfl,TxB.kept ⟨hk ▸ hN,by have:=hS.2.2.1;omega,fun t ht=>by have:=hS.2.1 t ht;omega⟩ (grown_set14 w1 pb 0 _) hlt,h1.set 0 _⟩
 ·rw [if_pos hg]
  have hgb:((g:Int)==0)=false:=by simpa using hg
  go_enter Tryz.func184,Tryz.ntmps184
  go_wp2_with fail
  refine D.mono ?_
  rintro e w1 ⟨⟨a,k,cap,rfl,hS,hN⟩,b1⟩
  have h1:=hb.below b1
  have f1:=h1.frozen 0
  have c1:w1.cell? ⟨pb,0,none⟩=some (.string ⟨R.toArray⟩):=h1.cell 0 _ rfl
  go_wp2_with fail
  refine (pwant14_no _).mono ?_
  rintro e w2 ⟨rfl,rfl⟩
  exact ⟨rfl,fin w1 b1,rfl⟩
end Go.Proofs.YtkkenfhlgpjmjaaGreatDoor
namespace Go.Proofs.YtkkenfhlgpjmjaaGreatDoor
set_option maxRecDepth 100000
open Go.RowKit
set_option linter.unusedVariables false
section
variable {P:Program} {ops:Array Oper} {md:Region.Mode} {Q:Exit→Act→World→Prop}
def chainW (md:Region.Mode) (ops:Array Oper):Nat→List Nat→Bool
 | _,[]=>true
 | i,m::ms=>Region.waitsFor md ops m i&&chainW md ops m ms
def unlB (listed:Array Bool) (ms:List Nat):Bool:=ms.all fun m=>listed.getD m false==false
theorem unlB_iff (listed:Array Bool) (ms:List Nat):unlB listed ms=true↔∀ m∈ms,listed.getD m false=false:=by
 unfold unlB
 rw [List.all_eq_true]
 exact ⟨fun h m hm=>by simpa using h m hm,fun h m hm=>by simpa using h m hm⟩
theorem chain_not (listed:Array Bool) (j:Nat) (hj:j∈Region.ready md ops listed):∀ (ms:List Nat) (i:Nat),listed.getD i false=false→(∀ m∈ms,listed.getD m false=false)→chainW md ops i ms=true→j ∉ ms
 | [],_,_,_,_=>by simp
 | m::ms,i,hi,hu,hc=>by
   rw [chainW,Bool.and_eq_true] at hc
   intro hm
   rcases List.mem_cons.1 hm with e | e
   ·subst e
    obtain ⟨o',ho',e,he,hb,hon⟩:=Region.waitsFor_spec hc.1
    obtain ⟨_,oj,hoj,hall⟩:=mem_ready.1 hj
    obtain rfl:o'=oj:=Option.some.inj (ho'.symm.trans hoj)
    have h4:=hall e he hb
    rw [hon,hi] at h4
    cases h4
   ·exact chain_not listed j hj ms m (hu m (List.mem_cons_self ..)) (fun x hx=>hu x (List.mem_cons_of_mem _ hx)) hc.2 e
theorem firstCC {C:World→Prop} {d i:Nat} {ms:List Nat} {oi:Oper} {v:Value} (hi:ops[i]?=some oi) (hsel:∀ (j:Nat) (o:Oper) cs b,ops[j]?=some o→o.op≠.select cs b)
 (hc:chainW md ops i ms=true) (hdm:d∈ms) (hQ:∀ c a w,Q (.panic c) (a.put oi.dst v) w→Q (.panic c) a w) :
 ∀ (f:Nat) (listed:Array Bool) (a:Act) (w:World),(∀ m∈ms,listed.getD m false=false) →
   (∀ j oj,ops[j]?=some oj→j≠i→listed.getD j true=false→(∀ e∈oj.after,Region.binds md e=true→e.on≠i)→oi.apart ops oj=true) →
   i∈Region.ready md ops listed→YieldsC C P ops oi v a →
   wpAnyC C d P md ops Q f (listed.setIfInBounds i true) (a.put oi.dst v) w→wpAnyC C d P md ops Q (f+1) listed a w:=by
 have hnm:∀ (listed:Array Bool) j,i∈Region.ready md ops listed→(∀ m∈ms,listed.getD m false=false)→j∈Region.ready md ops listed→j ∉ ms:=fun listed j hr hu hj =>
  chain_not listed j hj ms i (getD_both (mem_ready.1 hr).1) hu hc
 intro f
 induction f with
 | zero =>
   intro listed a w hml _ hr hy H
   have hdl:=hml d hdm
   have hid:i≠d:=fun e=>hnm listed i hr hml hr (by rw [e];exact hdm)
   refine .inr ⟨hdl,H.2 (by rw [getD_set_ne false hid];exact hdl),fun h=>(by rw [h] at hr;cases hr),fun j hj=>?_⟩
   by_cases hji:j=i
   ·subst hji;exact hy.op hi (H.2 (by rw [getD_set_ne false hid];exact hdl)) H
   ·have:=ready_mono hj hji
    rw [H.1.1] at this
    cases this
 | succ f ih =>
   intro listed a w hml hfree hr hy H
   have hdl:=hml d hdm
   have hid:i≠d:=fun e=>hnm listed i hr hml hr (by rw [e];exact hdm)
   rcases H with H | H
   ·rw [getD_set_ne false hid,hdl] at H;cases H.1
   ·obtain ⟨hd1,hC,hn,H⟩:=H
    refine .inr ⟨hdl,hC,fun h=>(by rw [h] at hr;cases hr),fun j hj=>?_⟩
    by_cases hji:j=i
    ·subst hji;exact hy.op hi hC (.inr ⟨hd1,hC,hn,H⟩)
    ·have h1:=H j (ready_mono hj hji)
     obtain ⟨hjun,oj,hoj,hall⟩:=mem_ready.1 hj
     have hnot:∀ e∈oj.after,Region.binds md e=true→e.on≠i:=fun e he hb heq=>by
      have h1:=hall e he hb
      rw [heq,getD_both (mem_ready.1 hr).1] at h1
      cases h1
     have h2:=wpOp_putC hoj (hfree j oj hoj hji hjun hnot) (fun cs b=>hsel i oi cs b hi) (fun cs b=>hsel j oj cs b hoj) hQ hy h1
     have hjm:=hnm listed j hr hml hj
     refine wpOp_mono (fun a' w' h3=>ih (listed.setIfInBounds j true) a' w' (fun m hm=>by rw [getD_set_ne false (fun e=>hjm (by rw [e];exact hm))];exact hml m hm) (fun k ok hk hki hku hno=>?_) (ready_mono hr (Ne.symm hji)) h3.1 ?_) h2
     ·refine hfree k ok hk hki ?_ hno
      by_cases hjk:j=k
      ·subst hjk;exact hjun
      ·rw [getD_set_ne true hjk] at hku;exact hku
     ·rw [Array.setIfInBounds_comm _ _ hji]
      exact h3.2
theorem takeCC {C:World→Prop} {d i:Nat} (ms:List Nat) {oi:Oper} {v:Value} {f:Nat} {listed:Array Bool} {a:Act} {w:World} (hi:ops[i]?=some oi)
 (hs:Region.noSelect ops=true) (hf:Region.free md ops listed i=true) (hr:(Region.ready md ops listed).contains i=true) (hc:chainW md ops i ms=true) (hd:ms.contains d=true) (hml:unlB listed ms=true)
 (hQ:∀ c a w,Q (.panic c) (a.put oi.dst v) w→Q (.panic c) a w) (hy:YieldsC C P ops oi v a)
 (h:wpAnyC C d P md ops Q f (listed.setIfInBounds i true) (a.put oi.dst v) w):wpAnyC C d P md ops Q (f+1) listed a w :=
 firstCC hi (Region.noSelect_spec hs) hc (by simpa using hd) hQ f listed a w ((unlB_iff _ _).1 hml) (Region.free_spec hi hf) (by simpa using hr) hy h
end
end Go.Proofs.YtkkenfhlgpjmjaaGreatDoor
namespace Go.Proofs.YtkkenfhlgpjmjaaGreatDoor
set_option maxRecDepth 100000
open Go.RowKit Go.Maps Go.Sort Go.Shelf
set_option linter.unusedVariables false
def keysA14_ren:Go.Shelf.Ren:=⟨fun | 7=>101 | 10=>173 | n=>n,fun | 23=>90 | 26=>3 | 3=>167 | 28=>165 | 0=>0 | 27=>164 | 33=>126 | 4=>4 | n=>n,fun n=>n⟩
theorem keysA14:Go.Proofs.SlLaysZI.n7 Tryz.prog keysA14_ren:={
 mixed:=by kernel_rfl
 f7:=⟨Tryz.f101.name,by kernel_rfl,Tryz.func101.trans (congrArg some (by kernel_rfl))⟩
 f10:=⟨Tryz.f173.name,by kernel_rfl,Tryz.func173.trans (congrArg some (by kernel_rfl))⟩
 t0:=Tryz.underlying0
 a0:=Tryz.isAgg0
 z0:=Tryz.sizeOf0
 v0:=Tryz.zeroValue0
 t4:=Tryz.underlying4
 a4:=Tryz.isAgg4
 z4:=Tryz.sizeOf4
 v4:=Tryz.zeroValue4
 t23:=Tryz.underlying90
 a23:=Tryz.isAgg90
 z23:=Tryz.sizeOf90
 v23:=Tryz.zeroValue90
 t26:=Tryz.underlying3
 a26:=Tryz.isAgg3
 z26:=Tryz.sizeOf3
 v26:=Tryz.zeroValue3
 t27:=Tryz.underlying164
 a27:=Tryz.isAgg164
 z27:=Tryz.sizeOf164
 v27:=Tryz.zeroValue164
 t28:=Tryz.underlying165
 a28:=Tryz.isAgg165
 z28:=Tryz.sizeOf165
 v28:=Tryz.zeroValue165
 t33:=Tryz.underlying126
 a33:=Tryz.isAgg126
 z33:=Tryz.sizeOf126
 v33:=Tryz.zeroValue126
}
def sortedA14_ren:Go.Shelf.Ren:=⟨fun | 6=>100 | 8=>171 | 9=>172 | 11=>232 | 13=>222 | 12=>233 | 23=>263 | 24=>264 | 14=>270 | 15=>271 | 16=>272 | 17=>273 | 18=>274 | 19=>275 | 20=>276 | 21=>277 | 22=>278 | 25=>290 | 26=>291 | 27=>292 | 28=>293 | 29=>294 | 30=>295 | 31=>306 | n=>n,fun | 26=>3 | 28=>165 | 24=>23 | 0=>0 | 3=>3 | 37=>277 | 48=>193 | 50=>177 | 4=>4 | 40=>329 | 39=>328 | 45=>252 | 5=>5 | 9=>9 | 51=>345 | 55=>349 | 57=>356 | 58=>147 | 33=>126 | n=>n,fun n=>n⟩
theorem sortedA14:Go.Proofs.SlLaysZI.n6 Tryz.prog sortedA14_ren:={
 mixed:=by kernel_rfl
 f6:=⟨Tryz.f100.name,by kernel_rfl,Tryz.func100.trans (congrArg some (by kernel_rfl))⟩
 f8:=⟨Tryz.f171.name,by kernel_rfl,Tryz.func171.trans (congrArg some (by kernel_rfl))⟩
 f11:=⟨Tryz.f232.name,by kernel_rfl,Tryz.func232.trans (congrArg some (by kernel_rfl))⟩
 t0:=Tryz.underlying0
 a0:=Tryz.isAgg0
 z0:=Tryz.sizeOf0
 v0:=Tryz.zeroValue0
 t24:=Tryz.underlying23
 a24:=Tryz.isAgg23
 z24:=Tryz.sizeOf23
 v24:=Tryz.zeroValue23
 t26:=Tryz.underlying3
 a26:=Tryz.isAgg3
 z26:=Tryz.sizeOf3
 v26:=Tryz.zeroValue3
 t28:=Tryz.underlying165
 a28:=Tryz.isAgg165
 z28:=Tryz.sizeOf165
 v28:=Tryz.zeroValue165
 i26:=by kernel_rfl
}
end Go.Proofs.YtkkenfhlgpjmjaaGreatDoor
namespace Go.Proofs.YtkkenfhlgpjmjaaGreatDoor
set_option maxRecDepth 100000
open Go.RowKit
set_option linter.unusedVariables false
attribute [local go_sem] ba_size
theorem ans14 {a b:Bool} (h:a=b):Ending.returned (.bool a)=Ending.returned (.bool b):=by rw [h]
theorem pwithin14 (n a b:Int) (w:World):Calls Tryz.prog 58 #[.int .i64 n,.int .i64 a,.int .i64 b] w fun e w'=>e=.returned (.bool (decide (a≤n∧n≤b)))∧Below w.heap.size w w':=by
 by_cases h1:a≤n
 ·by_cases h2:n≤b
  ·rw [decide_eq_true (show a≤n∧n≤b from ⟨h1,h2⟩)]
   go_enter Tryz.func58,Tryz.ntmps58
   go_wp2_with fail
   go_ret
   exact ⟨rfl,Below.refl _ _⟩
  ·rw [decide_eq_false (show ¬ (a≤n∧n≤b) from fun h=>h2 h.2)]
   go_enter Tryz.func58,Tryz.ntmps58
   go_wp2_with fail
   go_ret
   exact ⟨rfl,Below.refl _ _⟩
 ·rw [decide_eq_false (show ¬ (a≤n∧n≤b) from fun h=>h1 h.1)]
  go_enter Tryz.func58,Tryz.ntmps58
  go_wp2_with fail
  go_ret
  exact ⟨rfl,Below.refl _ _⟩
theorem pisTxn14 (n:Int) (w:World):Calls Tryz.prog 119 #[.int .i64 n] w fun e w'=>e=.returned (.bool (decide (txM n)))∧Below w.heap.size w w':=by
 go_enter Tryz.func119,Tryz.ntmps119
 go_wp2_with fail
 refine (pwithin14 n 1 32 w).mono ?_
 rintro e w1 ⟨rfl,b1⟩
 go_wp2_with fail
 go_ret
 exact ⟨ans14 (show (decide (1≤n)&&decide (n≤32))=_ by rw [Bool.decide_and]),b1⟩
theorem pisPlace14 (n:Int) (w:World):Calls Tryz.prog 120 #[.int .i64 n] w fun e w'=>e=.returned (.bool (decide (plM n)))∧Below w.heap.size w w':=by
 go_enter Tryz.func120,Tryz.ntmps120
 go_wp2_with fail
 refine (pwithin14 n 0 255 w).mono ?_
 rintro e w1 ⟨rfl,b1⟩
 go_wp2_with fail
 go_ret
 exact ⟨ans14 (show (decide (0≤n)&&decide (n≤255))=_ by rw [Bool.decide_and]),b1⟩
theorem pisSum14 (s:List UInt8) (w:World):Calls Tryz.prog 59 #[.string ⟨s.toArray⟩] w fun e w'=>e=.returned (.bool (decide (s.length=32)))∧Below w.heap.size w w':=by
 by_cases h1:s.length=32
 ·rw [decide_eq_true h1]
  have h2:((s.length:Int)==32)=true:=by simp;omega
  go_enter Tryz.func59,Tryz.ntmps59
  go_wp2_with fail
  go_ret
  exact ⟨rfl,Below.refl _ _⟩
 ·rw [decide_eq_false h1]
  have h2:((s.length:Int)==32)=false:=by simp;omega
  go_enter Tryz.func59,Tryz.ntmps59
  go_wp2_with fail
  go_ret
  exact ⟨rfl,Below.refl _ _⟩
theorem all_next14 {α:Type} {l:List α} {p:α→Prop} {k:Nat} (hk:k < l.length) (h:∀ x∈l.take k,p x) (hx:p l[k]):∀ x∈l.take (k+1),p x:=by
 intro x hm
 rw [List.take_succ_eq_append_getElem hk] at hm
 rcases List.mem_append.1 hm with h1 | h1
 ·exact h x h1
 ·simp at h1;subst h1;exact hx
set_option maxHeartbeats 2000000 in
theorem pedgeMay14 (e0 e1 e2 e3 e4:Int) (w:World):Calls Tryz.prog 122 #[.agg #[.int .i64 e0,.int .i64 e1,.int .i64 e2,.int .i64 e3,.int .i64 e4]] w fun e w'=>e=.returned (.bool (decide (edM (e0,e1,e2,e3,e4))))∧Below w.heap.size w w':=by
 have B0:=(Below.refl w.heap.size w).alloc (Nat.le_refl _) (.cells #[.int .i64 e0,.int .i64 e1,.int .i64 e2,.int .i64 e3,.int .i64 e4] 71)
 have X0:=SBox.new w 71 #[.int .i64 e0,.int .i64 e1,.int .i64 e2,.int .i64 e3,.int .i64 e4]
 have c0_0:(w.alloc (.cells #[.int .i64 e0,.int .i64 e1,.int .i64 e2,.int .i64 e3,.int .i64 e4] 71)).cell? ⟨w.heap.size,0,none⟩=some (.int .i64 e0):=X0.cell 0 _ rfl
 obtain ⟨ans,hans⟩:∃ b,decide (edM (e0,e1,e2,e3,e4))=b:=⟨_,rfl⟩
 rw [hans]
 have HA:Hid (decide (edM (e0,e1,e2,e3,e4))=ans):=hans
 clear hans
 go_enter Tryz.func122,Tryz.ntmps122
 go_wp2_with fail
 have C1:=fun (W:World) (hW:Below w.heap.size w W)=>pwithin14 e0 1 3 W
 by_cases h1:1≤e0∧e0≤3
 case neg =>
  have HN:Hid (¬ (edM (e0,e1,e2,e3,e4))):=fun h=>h1 (h.1)
  simp only [decide_eq_false h1] at C1
  clear h1
  refine (C1 _ (by assumption)).mono ?_
  rintro e w1 ⟨rfl,b1⟩
  have B1:=bel_trans B0 b1
  go_wp2_with fail
  go_ret
  exact ⟨ans14 ((decide_eq_false HN.out).symm.trans HA.out),B1⟩
 have K1:Hid (1≤e0∧e0≤3):=h1
 simp only [decide_eq_true h1] at C1
 clear h1
 refine (C1 _ (by assumption)).mono ?_
 rintro e w1 ⟨rfl,b1⟩
 have B1:=bel_trans B0 b1
 have X1:=X0.below b1
 have c1_1:w1.cell? ⟨w.heap.size,1,none⟩=some (.int .i64 e1):=X1.cell 1 _ rfl
 clear X0 B0 b1 C1
 go_wp2_with fail
 have C2:=fun (W:World) (hW:Below w.heap.size w W)=>pisTxn14 e1 W
 by_cases h2:txM e1
 case neg =>
  have HN:Hid (¬ (edM (e0,e1,e2,e3,e4))):=fun h=>h2 (h.2.1.1)
  simp only [decide_eq_false h2] at C2
  clear h2
  refine (C2 _ (by assumption)).mono ?_
  rintro e w2 ⟨rfl,b2⟩
  have B2:=bel_trans B1 b2
  go_wp2_with fail
  go_ret
  exact ⟨ans14 ((decide_eq_false HN.out).symm.trans HA.out),B2⟩
 have K2:Hid (txM e1):=h2
 simp only [decide_eq_true h2] at C2
 clear h2
 refine (C2 _ (by assumption)).mono ?_
 rintro e w2 ⟨rfl,b2⟩
 have B2:=bel_trans B1 b2
 have X2:=X1.below b2
 have c2_2:w2.cell? ⟨w.heap.size,2,none⟩=some (.int .i64 e2):=X2.cell 2 _ rfl
 clear X1 B1 b2 C2
 go_wp2_with fail
 have C3:=fun (W:World) (hW:Below w.heap.size w W)=>pisTxn14 e2 W
 by_cases h3:txM e2
 case neg =>
  have HN:Hid (¬ (edM (e0,e1,e2,e3,e4))):=fun h=>h3 (h.2.1.2)
  simp only [decide_eq_false h3] at C3
  clear h3
  refine (C3 _ (by assumption)).mono ?_
  rintro e w3 ⟨rfl,b3⟩
  have B3:=bel_trans B2 b3
  go_wp2_with fail
  go_ret
  exact ⟨ans14 ((decide_eq_false HN.out).symm.trans HA.out),B3⟩
 have K3:Hid (txM e2):=h3
 simp only [decide_eq_true h3] at C3
 clear h3
 refine (C3 _ (by assumption)).mono ?_
 rintro e w3 ⟨rfl,b3⟩
 have B3:=bel_trans B2 b3
 have X3:=X2.below b3
 have c3_3:w3.cell? ⟨w.heap.size,3,none⟩=some (.int .i64 e3):=X3.cell 3 _ rfl
 clear X2 B2 b3 C3
 go_wp2_with fail
 have C4:=fun (W:World) (hW:Below w.heap.size w W)=>pisPlace14 e3 W
 by_cases h4:plM e3
 case neg =>
  have HN:Hid (¬ (edM (e0,e1,e2,e3,e4))):=fun h=>h4 (h.2.2.1)
  simp only [decide_eq_false h4] at C4
  clear h4
  refine (C4 _ (by assumption)).mono ?_
  rintro e w4 ⟨rfl,b4⟩
  have B4:=bel_trans B3 b4
  go_wp2_with fail
  go_ret
  exact ⟨ans14 ((decide_eq_false HN.out).symm.trans HA.out),B4⟩
 have K4:Hid (plM e3):=h4
 simp only [decide_eq_true h4] at C4
 clear h4
 refine (C4 _ (by assumption)).mono ?_
 rintro e w4 ⟨rfl,b4⟩
 have B4:=bel_trans B3 b4
 have X4:=X3.below b4
 have c4_4:w4.cell? ⟨w.heap.size,4,none⟩=some (.int .i64 e4):=X4.cell 4 _ rfl
 clear X3 B3 b4 C4
 go_wp2_with fail
 have C5:=fun (W:World) (hW:Below w.heap.size w W)=>pisPlace14 e4 W
 by_cases h5:plM e4
 case neg =>
  have HN:Hid (¬ (edM (e0,e1,e2,e3,e4))):=fun h=>h5 (h.2.2.2)
  simp only [decide_eq_false h5] at C5
  clear h5
  refine (C5 _ (by assumption)).mono ?_
  rintro e w5 ⟨rfl,b5⟩
  have B5:=bel_trans B4 b5
  go_wp2_with fail
  go_ret
  exact ⟨ans14 ((decide_eq_false HN.out).symm.trans HA.out),B5⟩
 have K5:Hid (plM e4):=h5
 simp only [decide_eq_true h5] at C5
 clear h5
 refine (C5 _ (by assumption)).mono ?_
 rintro e w5 ⟨rfl,b5⟩
 have B5:=bel_trans B4 b5
 have X5:=X4.below b5
 clear X4 B4 b5 C5
 go_wp2_with fail
 go_ret
 exact ⟨ans14 ((decide_eq_true (show edM (e0,e1,e2,e3,e4) from ⟨K1.out,⟨K2.out,K3.out⟩,K4.out,K5.out⟩)).symm.trans HA.out),B5⟩
set_option maxHeartbeats 2000000 in
theorem pallI14 (m:Nat) (l:List Int) (v:Value) (w:World) (hT:IsInts w v l):Calls Tryz.prog 118 #[v,.int .i64 m,.func (.func 119) #[] #[]] w fun e w'=>e=.returned (.bool (decide (l.length≤m∧∀ x∈l,txM x)))∧Below w.heap.size w w':=by
 obtain ⟨a,cap,rfl,h1,h2,h3,HC⟩:=hT.some_at
 obtain ⟨n,hn⟩:∃ n,l.length=n:=⟨_,rfl⟩
 have HN:Hid (l.length=n):=hn
 rw [hn] at h1 h3 ⊢
 clear hn
 by_cases hbig:n≤m
 case neg =>
  rw [decide_eq_false (show ¬ (n≤m∧∀ x∈l,txM x) from fun h=>hbig h.1)]
  have j:(m:Int) < (n:Int):=by omega
  go_enter Tryz.func118,Tryz.ntmps118
  go_wp2_with fail
  go_ret
  exact ⟨rfl,Below.refl _ _⟩
 have j:¬ (m:Int) < (n:Int):=by omega
 obtain ⟨ans,hans⟩:∃ b,decide (n≤m∧∀ x∈l,txM x)=b:=⟨_,rfl⟩
 rw [hans]
 have HQ:Hid (decide (n≤m∧∀ x∈l,txM x)=ans):=hans
 clear hans
 go_enter Tryz.func118,Tryz.ntmps118
 go_wp2_with fail
 go_loopw [15] (fun i wr=>∃ (k:Nat),k≤n∧i=.int .i64 k∧Hid (∀ x∈l.take k,txM x)∧Below w.heap.size w wr) (fun i _=>n - (RowKit.intOf i).toNat)
 case atStart=>exact ⟨0,Nat.zero_le _,rfl,(by intro x hx;simp at hx),Below.refl _ _⟩
 case round =>
  obtain ⟨k,hk,rfl,HA,hbw⟩:=hrel
  by_cases hlt:k < n
  ·have hk1:k < l.length:=by have:=HN.out;omega
   obtain ⟨bb,off,rfl,hblt,hcell⟩:=HC.out k hk1
   have q0:=(hbw.cell (p:=⟨bb,off+k*1+0,none⟩) hblt).trans (hcell 0 _ rfl)
   simp only [Nat.mul_one,Nat.add_zero] at q0
   obtain ⟨y,hy⟩:∃ y,l[k]=y:=⟨_,rfl⟩
   have HY:Hid (l[k]=y):=hy
   rw [hy] at q0
   clear hcell hy
   have C:=fun W=>pisTxn14 y W
   by_cases hx:txM y
   case neg =>
    have HE:Hid (¬ (n≤m∧∀ x∈l,txM x)):=fun h=>hx (by have h9:=h.2 l[k] (List.getElem_mem hk1);rw [← HY.out];exact h9)
    simp only [decide_eq_false hx] at C
    clear hx
    go_wp2_with fail
    refine (C _).mono ?_
    rintro e w3 ⟨rfl,b3⟩
    go_wp2_with fail
    go_ret
    exact ⟨ans14 ((decide_eq_false HE.out).symm.trans HQ.out),bel_trans hbw b3⟩
   have HA':Hid (∀ x∈l.take (k+1),txM x):=all_next14 hk1 HA.out (by rw [HY.out];exact hx)
   simp only [decide_eq_true hx] at C
   clear hx
   go_wp2_with fail
   refine (C _).mono ?_
   rintro e w3 ⟨rfl,b3⟩
   go_wp2_with fail
   go_roundw
   case rel=>exact ⟨k+1,by omega,by first | go_num | simp,HA',bel_trans hbw b3⟩
   case measure=>simp [RowKit.intOf];omega
  ·obtain rfl:k=n:=by omega
   have HE:Hid (k≤m∧∀ x∈l,txM x):=⟨hbig,by have:=HA.out;rwa [List.take_of_length_le (by have:=HN.out;omega)] at this⟩
   go_wp2_with fail
   go_ret
   exact ⟨ans14 ((decide_eq_true HE.out).symm.trans HQ.out),hbw⟩
set_option maxHeartbeats 2000000 in
theorem pallT14 (m:Nat) (l:List (List UInt8)) (v:Value) (w:World) (hT:IsTxt w v l):Calls Tryz.prog 124 #[v,.int .i64 m,.func (.func 59) #[] #[]] w fun e w'=>e=.returned (.bool (decide (l.length≤m∧∀ x∈l,List.length x=32)))∧Below w.heap.size w w':=by
 obtain ⟨a,cap,rfl,h1,h2,h3,HC⟩:=hT.some_at
 obtain ⟨n,hn⟩:∃ n,l.length=n:=⟨_,rfl⟩
 have HN:Hid (l.length=n):=hn
 rw [hn] at h1 h3 ⊢
 clear hn
 by_cases hbig:n≤m
 case neg =>
  rw [decide_eq_false (show ¬ (n≤m∧∀ x∈l,List.length x=32) from fun h=>hbig h.1)]
  have j:(m:Int) < (n:Int):=by omega
  go_enter Tryz.func124,Tryz.ntmps124
  go_wp2_with fail
  go_ret
  exact ⟨rfl,Below.refl _ _⟩
 have j:¬ (m:Int) < (n:Int):=by omega
 obtain ⟨ans,hans⟩:∃ b,decide (n≤m∧∀ x∈l,List.length x=32)=b:=⟨_,rfl⟩
 rw [hans]
 have HQ:Hid (decide (n≤m∧∀ x∈l,List.length x=32)=ans):=hans
 clear hans
 go_enter Tryz.func124,Tryz.ntmps124
 go_wp2_with fail
 go_loopw [15] (fun i wr=>∃ (k:Nat),k≤n∧i=.int .i64 k∧Hid (∀ x∈l.take k,List.length x=32)∧Below w.heap.size w wr) (fun i _=>n - (RowKit.intOf i).toNat)
 case atStart=>exact ⟨0,Nat.zero_le _,rfl,(by intro x hx;simp at hx),Below.refl _ _⟩
 case round =>
  obtain ⟨k,hk,rfl,HA,hbw⟩:=hrel
  by_cases hlt:k < n
  ·have hk1:k < l.length:=by have:=HN.out;omega
   obtain ⟨bb,off,rfl,hblt,hcell⟩:=HC.out k hk1
   have q0:=(hbw.cell (p:=⟨bb,off+k,none⟩) hblt).trans hcell
   obtain ⟨y,hy⟩:∃ y,l[k]=y:=⟨_,rfl⟩
   have HY:Hid (l[k]=y):=hy
   rw [hy] at q0
   clear hcell hy
   have C:=fun W=>pisSum14 y W
   by_cases hx:y.length=32
   case neg =>
    have HE:Hid (¬ (n≤m∧∀ x∈l,List.length x=32)):=fun h=>hx (by have h9:=h.2 l[k] (List.getElem_mem hk1);rw [← HY.out];exact h9)
    simp only [decide_eq_false hx] at C
    clear hx
    go_wp2_with fail
    refine (C _).mono ?_
    rintro e w3 ⟨rfl,b3⟩
    go_wp2_with fail
    go_ret
    exact ⟨ans14 ((decide_eq_false HE.out).symm.trans HQ.out),bel_trans hbw b3⟩
   have HA':Hid (∀ x∈l.take (k+1),List.length x=32):=all_next14 hk1 HA.out (by rw [HY.out];exact hx)
   simp only [decide_eq_true hx] at C
   clear hx
   go_wp2_with fail
   refine (C _).mono ?_
   rintro e w3 ⟨rfl,b3⟩
   go_wp2_with fail
   go_roundw
   case rel=>exact ⟨k+1,by omega,by first | go_num | simp,HA',bel_trans hbw b3⟩
   case measure=>simp [RowKit.intOf];omega
  ·obtain rfl:k=n:=by omega
   have HE:Hid (k≤m∧∀ x∈l,List.length x=32):=⟨hbig,by have:=HA.out;rwa [List.take_of_length_le (by have:=HN.out;omega)] at this⟩
   go_wp2_with fail
   go_ret
   exact ⟨ans14 ((decide_eq_true HE.out).symm.trans HQ.out),hbw⟩
set_option maxHeartbeats 2000000 in
theorem pallE14 (m:Nat) (l:List Ed) (v:Value) (w:World) (hT:IsEds w v l):Calls Tryz.prog 121 #[v,.int .i64 m,.func (.func 122) #[] #[]] w fun e w'=>e=.returned (.bool (decide (l.length≤m∧∀ x∈l,edM x)))∧Below w.heap.size w w':=by
 obtain ⟨a,cap,rfl,h1,h2,h3,HC⟩:=hT.some_at
 obtain ⟨n,hn⟩:∃ n,l.length=n:=⟨_,rfl⟩
 have HN:Hid (l.length=n):=hn
 rw [hn] at h1 h3 ⊢
 clear hn
 by_cases hbig:n≤m
 case neg =>
  rw [decide_eq_false (show ¬ (n≤m∧∀ x∈l,edM x) from fun h=>hbig h.1)]
  have j:(m:Int) < (n:Int):=by omega
  go_enter Tryz.func121,Tryz.ntmps121
  go_wp2_with fail
  go_ret
  exact ⟨rfl,Below.refl _ _⟩
 have j:¬ (m:Int) < (n:Int):=by omega
 obtain ⟨ans,hans⟩:∃ b,decide (n≤m∧∀ x∈l,edM x)=b:=⟨_,rfl⟩
 rw [hans]
 have HQ:Hid (decide (n≤m∧∀ x∈l,edM x)=ans):=hans
 clear hans
 go_enter Tryz.func121,Tryz.ntmps121
 go_wp2_with fail
 go_loopw [15] (fun i wr=>∃ (k:Nat),k≤n∧i=.int .i64 k∧Hid (∀ x∈l.take k,edM x)∧Below w.heap.size w wr) (fun i _=>n - (RowKit.intOf i).toNat)
 case atStart=>exact ⟨0,Nat.zero_le _,rfl,(by intro x hx;simp at hx),Below.refl _ _⟩
 case round =>
  obtain ⟨k,hk,rfl,HA,hbw⟩:=hrel
  by_cases hlt:k < n
  ·have hk1:k < l.length:=by have:=HN.out;omega
   obtain ⟨bb,off,rfl,hblt,hcell⟩:=HC.out k hk1
   have q0:=(hbw.cell (p:=⟨bb,off+k*5,none⟩) hblt).trans (hcell 0 _ rfl)
   have q1:=(hbw.cell (p:=⟨bb,off+k*5+1,none⟩) hblt).trans (hcell 1 _ rfl)
   have q2:=(hbw.cell (p:=⟨bb,off+k*5+2,none⟩) hblt).trans (hcell 2 _ rfl)
   have q3:=(hbw.cell (p:=⟨bb,off+k*5+3,none⟩) hblt).trans (hcell 3 _ rfl)
   have q4:=(hbw.cell (p:=⟨bb,off+k*5+4,none⟩) hblt).trans (hcell 4 _ rfl)
   obtain ⟨y,hy⟩:∃ y,l[k]=y:=⟨_,rfl⟩
   have HY:Hid (l[k]=y):=hy
   rw [hy] at q0 q1 q2 q3 q4
   clear hcell hy
   obtain ⟨e0,e1,e2,e3,e4⟩:=y
   simp only at q0 q1 q2 q3 q4
   have C:=fun W=>pedgeMay14 e0 e1 e2 e3 e4 W
   by_cases hx:edM (e0,e1,e2,e3,e4)
   case neg =>
    have HE:Hid (¬ (n≤m∧∀ x∈l,edM x)):=fun h=>hx (by have h9:=h.2 l[k] (List.getElem_mem hk1);rw [← HY.out];exact h9)
    simp only [decide_eq_false hx] at C
    clear hx
    go_wp2_with fail
    refine (C _).mono ?_
    rintro e w3 ⟨rfl,b3⟩
    go_wp2_with fail
    go_ret
    exact ⟨ans14 ((decide_eq_false HE.out).symm.trans HQ.out),bel_trans (hbw.alloc hbw.size _) b3⟩
   have HA':Hid (∀ x∈l.take (k+1),edM x):=all_next14 hk1 HA.out (by rw [HY.out];exact hx)
   simp only [decide_eq_true hx] at C
   clear hx
   go_wp2_with fail
   refine (C _).mono ?_
   rintro e w3 ⟨rfl,b3⟩
   go_wp2_with fail
   go_roundw
   case rel=>exact ⟨k+1,by omega,by first | go_num | simp,HA',bel_trans (hbw.alloc hbw.size _) b3⟩
   case measure=>simp [RowKit.intOf];omega
  ·obtain rfl:k=n:=by omega
   have HE:Hid (k≤m∧∀ x∈l,edM x):=⟨hbig,by have:=HA.out;rwa [List.take_of_length_le (by have:=HN.out;omega)] at this⟩
   go_wp2_with fail
   go_ret
   exact ⟨ans14 ((decide_eq_true HE.out).symm.trans HQ.out),hbw⟩
set_option maxHeartbeats 2000000 in
theorem pproofMay14 (p0 y0 y1:Int) (y2 y3:List UInt8) (ua:Option Addr) (uc:Nat) (l:List (List UInt8)) (w:World) (hT:IsTxt w (.slice ua l.length uc) l):Calls Tryz.prog 62 #[.agg #[.int .i64 p0,.int .i64 y0,.int .i64 y1,.string ⟨y2.toArray⟩,.string ⟨y3.toArray⟩,.slice ua l.length uc]] w fun e w'=>e=.returned (.bool (decide (pfM (p0,(y0,y1,y2,y3),l))))∧Below w.heap.size w w':=by
 have B0:=(Below.refl w.heap.size w).alloc (Nat.le_refl _) (.cells #[.int .i64 p0,.int .i64 y0,.int .i64 y1,.string ⟨y2.toArray⟩,.string ⟨y3.toArray⟩,.slice ua l.length uc] 66)
 have X0:=SBox.new w 66 #[.int .i64 p0,.int .i64 y0,.int .i64 y1,.string ⟨y2.toArray⟩,.string ⟨y3.toArray⟩,.slice ua l.length uc]
 have c0_0:(w.alloc (.cells #[.int .i64 p0,.int .i64 y0,.int .i64 y1,.string ⟨y2.toArray⟩,.string ⟨y3.toArray⟩,.slice ua l.length uc] 66)).cell? ⟨w.heap.size,0,none⟩=some (.int .i64 p0):=X0.cell 0 _ rfl
 obtain ⟨ans,hans⟩:∃ b,decide (pfM (p0,(y0,y1,y2,y3),l))=b:=⟨_,rfl⟩
 rw [hans]
 have HA:Hid (decide (pfM (p0,(y0,y1,y2,y3),l))=ans):=hans
 clear hans
 go_enter Tryz.func62,Tryz.ntmps62
 go_wp2_with fail
 have C1:=fun (W:World) (hW:Below w.heap.size w W)=>pisPlace14 p0 W
 by_cases h1:plM p0
 case neg =>
  have HN:Hid (¬ (pfM (p0,(y0,y1,y2,y3),l))):=fun h=>h1 (h.1.1)
  simp only [decide_eq_false h1] at C1
  clear h1
  refine (C1 _ (by assumption)).mono ?_
  rintro e w1 ⟨rfl,b1⟩
  have B1:=bel_trans B0 b1
  go_wp2_with fail
  go_ret
  exact ⟨ans14 ((decide_eq_false HN.out).symm.trans HA.out),B1⟩
 have K1:Hid (plM p0):=h1
 simp only [decide_eq_true h1] at C1
 clear h1
 refine (C1 _ (by assumption)).mono ?_
 rintro e w1 ⟨rfl,b1⟩
 have B1:=bel_trans B0 b1
 have X1:=X0.below b1
 have c1_1:w1.cell? ⟨w.heap.size,1,none⟩=some (.int .i64 y0):=X1.cell 1 _ rfl
 have c1_2:w1.cell? ⟨w.heap.size,2,none⟩=some (.int .i64 y1):=X1.cell 2 _ rfl
 have c1_3:w1.cell? ⟨w.heap.size,3,none⟩=some (.string ⟨y2.toArray⟩):=X1.cell 3 _ rfl
 have c1_4:w1.cell? ⟨w.heap.size,4,none⟩=some (.string ⟨y3.toArray⟩):=X1.cell 4 _ rfl
 clear X0 B0 b1 C1
 go_wp2_with fail
 have C2:=fun (W:World) (hW:Below w.heap.size w W)=>pmay_any y0 y1 y2 y3 W
 by_cases h2:mayE (y0,y1,y2,y3)
 case neg =>
  have HN:Hid (¬ (pfM (p0,(y0,y1,y2,y3),l))):=fun h=>h2 (h.1.2)
  simp only [decide_eq_false h2] at C2
  clear h2
  refine (C2 _ (by assumption)).mono ?_
  rintro e w2 ⟨rfl,b2⟩
  have B2:=bel_trans B1 b2
  go_wp2_with fail
  go_ret
  exact ⟨ans14 ((decide_eq_false HN.out).symm.trans HA.out),B2⟩
 have K2:Hid (mayE (y0,y1,y2,y3)):=h2
 simp only [decide_eq_true h2] at C2
 clear h2
 refine (C2 _ (by assumption)).mono ?_
 rintro e w2 ⟨rfl,b2⟩
 have B2:=bel_trans B1 b2
 have X2:=X1.below b2
 have c2_5:w2.cell? ⟨w.heap.size,5,none⟩=some (.slice ua l.length uc):=X2.cell 5 _ rfl
 clear X1 B1 b2 C2
 go_wp2_with fail
 have C3:=fun (W:World) (hW:Below w.heap.size w W)=>pallT14 12 l _ W (hT.below hW)
 by_cases h3:l.length≤12∧∀ x∈l,List.length x=32
 case neg =>
  have HN:Hid (¬ (pfM (p0,(y0,y1,y2,y3),l))):=fun h=>h3 (⟨h.2.1,h.2.2⟩)
  simp only [decide_eq_false h3] at C3
  clear h3
  refine (C3 _ (by assumption)).mono ?_
  rintro e w3 ⟨rfl,b3⟩
  have B3:=bel_trans B2 b3
  go_wp2_with fail
  go_ret
  exact ⟨ans14 ((decide_eq_false HN.out).symm.trans HA.out),B3⟩
 have K3:Hid (l.length≤12∧∀ x∈l,List.length x=32):=h3
 simp only [decide_eq_true h3] at C3
 clear h3
 refine (C3 _ (by assumption)).mono ?_
 rintro e w3 ⟨rfl,b3⟩
 have B3:=bel_trans B2 b3
 have X3:=X2.below b3
 clear X2 B2 b3 C3
 go_wp2_with fail
 go_ret
 exact ⟨ans14 ((decide_eq_true (show pfM (p0,(y0,y1,y2,y3),l) from ⟨⟨K1.out,K2.out⟩,K3.out⟩)).symm.trans HA.out),B3⟩
set_option maxHeartbeats 2000000 in
theorem pallP14 (m:Nat) (l:List Pf) (v:Value) (w:World) (hT:IsPfs w v l):Calls Tryz.prog 61 #[v,.int .i64 m,.func (.func 62) #[] #[]] w fun e w'=>e=.returned (.bool (decide (l.length≤m∧∀ x∈l,pfM x)))∧Below w.heap.size w w':=by
 obtain ⟨a,cap,rfl,h1,h2,h3,HC⟩:=hT.reads
 obtain ⟨n,hn⟩:∃ n,l.length=n:=⟨_,rfl⟩
 have HN:Hid (l.length=n):=hn
 rw [hn] at h1 h3 ⊢
 clear hn
 by_cases hbig:n≤m
 case neg =>
  rw [decide_eq_false (show ¬ (n≤m∧∀ x∈l,pfM x) from fun h=>hbig h.1)]
  have j:(m:Int) < (n:Int):=by omega
  go_enter Tryz.func61,Tryz.ntmps61
  go_wp2_with fail
  go_ret
  exact ⟨rfl,Below.refl _ _⟩
 have j:¬ (m:Int) < (n:Int):=by omega
 obtain ⟨ans,hans⟩:∃ b,decide (n≤m∧∀ x∈l,pfM x)=b:=⟨_,rfl⟩
 rw [hans]
 have HQ:Hid (decide (n≤m∧∀ x∈l,pfM x)=ans):=hans
 clear hans
 go_enter Tryz.func61,Tryz.ntmps61
 go_wp2_with fail
 go_loopw [15] (fun i wr=>∃ (k:Nat),k≤n∧i=.int .i64 k∧Hid (∀ x∈l.take k,pfM x)∧Below w.heap.size w wr) (fun i _=>n - (RowKit.intOf i).toNat)
 case atStart=>exact ⟨0,Nat.zero_le _,rfl,(by intro x hx;simp at hx),Below.refl _ _⟩
 case round =>
  obtain ⟨k,hk,rfl,HA,hbw⟩:=hrel
  by_cases hlt:k < n
  ·have hk1:k < l.length:=by have:=HN.out;omega
   obtain ⟨bb,off,rfl,u,hu,hcell⟩:=HC.out k hk1
   obtain ⟨q0,q1,q2,q3,q4,q5⟩:=hcell wr hbw
   obtain ⟨y,hy⟩:∃ y,l[k]=y:=⟨_,rfl⟩
   have HY:Hid (l[k]=y):=hy
   rw [hy] at q0 q1 q2 q3 q4 hu
   clear hcell hy
   obtain ⟨p0,⟨y0,y1,y2,y3⟩,yl⟩:=y
   simp only at q0 q1 q2 q3 q4 hu
   obtain ⟨ua,uc,rfl,_⟩:=hu.len
   have C:=fun (W:World) (hW:Below w.heap.size w W)=>pproofMay14 p0 y0 y1 y2 y3 ua uc yl W (hu.below hW)
   by_cases hx:pfM (p0,(y0,y1,y2,y3),yl)
   case neg =>
    have HE:Hid (¬ (n≤m∧∀ x∈l,pfM x)):=fun h=>hx (by have h9:=h.2 l[k] (List.getElem_mem hk1);rw [← HY.out];exact h9)
    simp only [decide_eq_false hx] at C
    clear hx
    go_wp2_with fail
    refine (C _ (hbw.alloc hbw.size _)).mono ?_
    rintro e w3 ⟨rfl,b3⟩
    go_wp2_with fail
    go_ret
    exact ⟨ans14 ((decide_eq_false HE.out).symm.trans HQ.out),bel_trans (hbw.alloc hbw.size _) b3⟩
   have HA':Hid (∀ x∈l.take (k+1),pfM x):=all_next14 hk1 HA.out (by rw [HY.out];exact hx)
   simp only [decide_eq_true hx] at C
   clear hx
   go_wp2_with fail
   refine (C _ (hbw.alloc hbw.size _)).mono ?_
   rintro e w3 ⟨rfl,b3⟩
   go_wp2_with fail
   go_roundw
   case rel=>exact ⟨k+1,by omega,by first | go_num | simp,HA',bel_trans (hbw.alloc hbw.size _) b3⟩
   case measure=>simp [RowKit.intOf];omega
  ·obtain rfl:k=n:=by omega
   have HE:Hid (k≤m∧∀ x∈l,pfM x):=⟨hbig,by have:=HA.out;rwa [List.take_of_length_le (by have:=HN.out;omega)] at this⟩
   go_wp2_with fail
   go_ret
   exact ⟨ans14 ((decide_eq_true HE.out).symm.trans HQ.out),hbw⟩
set_option maxHeartbeats 4000000 in
theorem pverdictMay14 (lv k i j:Int) (ac:Bool) (oa:Option Addr) (oc:Nat) (o:List Int) (ra:Option Addr) (rc:Nat) (r:List Ed) (w:World) (hO:IsInts w (.slice oa o.length oc) o) (hR:IsEds w (.slice ra r.length rc) r):Calls Tryz.prog 60 #[.agg #[.int .i64 lv,.bool ac,.slice oa o.length oc,.int .i64 k,.int .i64 i,.int .i64 j,.slice ra r.length rc]] w fun e w'=>e=.returned (.bool (decide (vdM (lv,ac,o,(k,i,j),r))))∧Below w.heap.size w w':=by
 have B0:=(Below.refl w.heap.size w).alloc (Nat.le_refl _) (.cells #[.int .i64 lv,.bool ac,.slice oa o.length oc,.int .i64 k,.int .i64 i,.int .i64 j,.slice ra r.length rc] 28)
 have X0:=SBox.new w 28 #[.int .i64 lv,.bool ac,.slice oa o.length oc,.int .i64 k,.int .i64 i,.int .i64 j,.slice ra r.length rc]
 obtain ⟨ans,hans⟩:∃ b,decide (vdM (lv,ac,o,(k,i,j),r))=b:=⟨_,rfl⟩
 rw [hans]
 have HA:Hid (decide (vdM (lv,ac,o,(k,i,j),r))=ans):=hans
 clear hans
 have c0_0:(w.alloc (.cells #[.int .i64 lv,.bool ac,.slice oa o.length oc,.int .i64 k,.int .i64 i,.int .i64 j,.slice ra r.length rc] 28)).cell? ⟨w.heap.size,0,none⟩=some (.int .i64 lv):=X0.cell 0 _ rfl
 have c0_2:(w.alloc (.cells #[.int .i64 lv,.bool ac,.slice oa o.length oc,.int .i64 k,.int .i64 i,.int .i64 j,.slice ra r.length rc] 28)).cell? ⟨w.heap.size,2,none⟩=some (.slice oa o.length oc):=X0.cell 2 _ rfl
 by_cases h0:1≤lv∧lv≤2
 case neg =>
  have HN:Hid (¬ (vdM (lv,ac,o,(k,i,j),r))):=fun h=>h0 h.1.1
  have a1:(lv==1)=false:=by simp;omega
  have a2:(lv==2)=false:=by simp;omega
  clear h0
  go_enter Tryz.func60,Tryz.ntmps60
  go_wp2_with fail
  go_ret
  exact ⟨ans14 ((decide_eq_false HN.out).symm.trans HA.out),B0⟩
 have K0:Hid (1≤lv∧lv≤2):=h0
 by_cases hl:lv=1
 ·have a1:(lv==1)=true:=by simp;omega
  clear h0 hl
  go_enter Tryz.func60,Tryz.ntmps60
  go_wp2_with fail
  have C1:=fun (W:World) (hW:Below w.heap.size w W)=>pallI14 32 o _ W (hO.below hW)
  by_cases h1:o.length≤32∧∀ x∈o,txM x
  case neg =>
   have HN:Hid (¬ (vdM (lv,ac,o,(k,i,j),r))):=fun h=>h1 (⟨h.1.2.1,h.2.1⟩)
   simp only [decide_eq_false h1] at C1
   clear h1
   refine (C1 _ (by assumption)).mono ?_
   rintro e w1 ⟨rfl,b1⟩
   have B1:=bel_trans B0 b1
   go_wp2_with fail
   go_ret
   exact ⟨ans14 ((decide_eq_false HN.out).symm.trans HA.out),B1⟩
  have K1:Hid (o.length≤32∧∀ x∈o,txM x):=h1
  simp only [decide_eq_true h1] at C1
  clear h1
  refine (C1 _ (by assumption)).mono ?_
  rintro e w1 ⟨rfl,b1⟩
  have B1:=bel_trans B0 b1
  have X1:=X0.below b1
  have c1_3:w1.cell? ⟨w.heap.size,3,none⟩=some (.int .i64 k):=X1.cell 3 _ rfl
  clear X0 B0 b1 C1
  go_wp2_with fail
  have C2:=fun (W:World) (hW:Below w.heap.size w W)=>pwithin14 k 0 4 W
  by_cases h2:0≤k∧k≤4
  case neg =>
   have HN:Hid (¬ (vdM (lv,ac,o,(k,i,j),r))):=fun h=>h2 (h.1.2.2.1)
   simp only [decide_eq_false h2] at C2
   clear h2
   refine (C2 _ (by assumption)).mono ?_
   rintro e w2 ⟨rfl,b2⟩
   have B2:=bel_trans B1 b2
   go_wp2_with fail
   go_ret
   exact ⟨ans14 ((decide_eq_false HN.out).symm.trans HA.out),B2⟩
  have K2:Hid (0≤k∧k≤4):=h2
  simp only [decide_eq_true h2] at C2
  clear h2
  refine (C2 _ (by assumption)).mono ?_
  rintro e w2 ⟨rfl,b2⟩
  have B2:=bel_trans B1 b2
  have X2:=X1.below b2
  have c2_4:w2.cell? ⟨w.heap.size,4,none⟩=some (.int .i64 i):=X2.cell 4 _ rfl
  clear X1 B1 b2 C2
  go_wp2_with fail
  have C3:=fun (W:World) (hW:Below w.heap.size w W)=>pisPlace14 i W
  by_cases h3:plM i
  case neg =>
   have HN:Hid (¬ (vdM (lv,ac,o,(k,i,j),r))):=fun h=>h3 (h.1.2.2.2.1.1)
   simp only [decide_eq_false h3] at C3
   clear h3
   refine (C3 _ (by assumption)).mono ?_
   rintro e w3 ⟨rfl,b3⟩
   have B3:=bel_trans B2 b3
   go_wp2_with fail
   go_ret
   exact ⟨ans14 ((decide_eq_false HN.out).symm.trans HA.out),B3⟩
  have K3:Hid (plM i):=h3
  simp only [decide_eq_true h3] at C3
  clear h3
  refine (C3 _ (by assumption)).mono ?_
  rintro e w3 ⟨rfl,b3⟩
  have B3:=bel_trans B2 b3
  have X3:=X2.below b3
  have c3_5:w3.cell? ⟨w.heap.size,5,none⟩=some (.int .i64 j):=X3.cell 5 _ rfl
  clear X2 B2 b3 C3
  go_wp2_with fail
  have C4:=fun (W:World) (hW:Below w.heap.size w W)=>pisPlace14 j W
  by_cases h4:plM j
  case neg =>
   have HN:Hid (¬ (vdM (lv,ac,o,(k,i,j),r))):=fun h=>h4 (h.1.2.2.2.1.2)
   simp only [decide_eq_false h4] at C4
   clear h4
   refine (C4 _ (by assumption)).mono ?_
   rintro e w4 ⟨rfl,b4⟩
   have B4:=bel_trans B3 b4
   go_wp2_with fail
   go_ret
   exact ⟨ans14 ((decide_eq_false HN.out).symm.trans HA.out),B4⟩
  have K4:Hid (plM j):=h4
  simp only [decide_eq_true h4] at C4
  clear h4
  refine (C4 _ (by assumption)).mono ?_
  rintro e w4 ⟨rfl,b4⟩
  have B4:=bel_trans B3 b4
  have X4:=X3.below b4
  have c4_6:w4.cell? ⟨w.heap.size,6,none⟩=some (.slice ra r.length rc):=X4.cell 6 _ rfl
  clear X3 B3 b4 C4
  go_wp2_with fail
  have C5:=fun (W:World) (hW:Below w.heap.size w W)=>pallE14 128 r _ W (hR.below hW)
  by_cases h5:r.length≤128∧∀ x∈r,edM x
  case neg =>
   have HN:Hid (¬ (vdM (lv,ac,o,(k,i,j),r))):=fun h=>h5 (⟨h.1.2.2.2.2,h.2.2⟩)
   simp only [decide_eq_false h5] at C5
   clear h5
   refine (C5 _ (by assumption)).mono ?_
   rintro e w5 ⟨rfl,b5⟩
   have B5:=bel_trans B4 b5
   go_wp2_with fail
   go_ret
   exact ⟨ans14 ((decide_eq_false HN.out).symm.trans HA.out),B5⟩
  have K5:Hid (r.length≤128∧∀ x∈r,edM x):=h5
  simp only [decide_eq_true h5] at C5
  clear h5
  refine (C5 _ (by assumption)).mono ?_
  rintro e w5 ⟨rfl,b5⟩
  have B5:=bel_trans B4 b5
  have X5:=X4.below b5
  clear X4 B4 b5 C5
  go_wp2_with fail
  go_ret
  exact ⟨ans14 ((decide_eq_true (show vdM (lv,ac,o,(k,i,j),r) from ⟨⟨K0.out,K1.out.1,K2.out,⟨K3.out,K4.out⟩,K5.out.1⟩,K1.out.2,K5.out.2⟩)).symm.trans HA.out),B5⟩
 ·have a1:(lv==1)=false:=by simp;omega
  have a2:(lv==2)=true:=by simp;omega
  clear h0 hl
  go_enter Tryz.func60,Tryz.ntmps60
  go_wp2_with fail
  have C1:=fun (W:World) (hW:Below w.heap.size w W)=>pallI14 32 o _ W (hO.below hW)
  by_cases h1:o.length≤32∧∀ x∈o,txM x
  case neg =>
   have HN:Hid (¬ (vdM (lv,ac,o,(k,i,j),r))):=fun h=>h1 (⟨h.1.2.1,h.2.1⟩)
   simp only [decide_eq_false h1] at C1
   clear h1
   refine (C1 _ (by assumption)).mono ?_
   rintro e w1 ⟨rfl,b1⟩
   have B1:=bel_trans B0 b1
   go_wp2_with fail
   go_ret
   exact ⟨ans14 ((decide_eq_false HN.out).symm.trans HA.out),B1⟩
  have K1:Hid (o.length≤32∧∀ x∈o,txM x):=h1
  simp only [decide_eq_true h1] at C1
  clear h1
  refine (C1 _ (by assumption)).mono ?_
  rintro e w1 ⟨rfl,b1⟩
  have B1:=bel_trans B0 b1
  have X1:=X0.below b1
  have c1_3:w1.cell? ⟨w.heap.size,3,none⟩=some (.int .i64 k):=X1.cell 3 _ rfl
  clear X0 B0 b1 C1
  go_wp2_with fail
  have C2:=fun (W:World) (hW:Below w.heap.size w W)=>pwithin14 k 0 4 W
  by_cases h2:0≤k∧k≤4
  case neg =>
   have HN:Hid (¬ (vdM (lv,ac,o,(k,i,j),r))):=fun h=>h2 (h.1.2.2.1)
   simp only [decide_eq_false h2] at C2
   clear h2
   refine (C2 _ (by assumption)).mono ?_
   rintro e w2 ⟨rfl,b2⟩
   have B2:=bel_trans B1 b2
   go_wp2_with fail
   go_ret
   exact ⟨ans14 ((decide_eq_false HN.out).symm.trans HA.out),B2⟩
  have K2:Hid (0≤k∧k≤4):=h2
  simp only [decide_eq_true h2] at C2
  clear h2
  refine (C2 _ (by assumption)).mono ?_
  rintro e w2 ⟨rfl,b2⟩
  have B2:=bel_trans B1 b2
  have X2:=X1.below b2
  have c2_4:w2.cell? ⟨w.heap.size,4,none⟩=some (.int .i64 i):=X2.cell 4 _ rfl
  clear X1 B1 b2 C2
  go_wp2_with fail
  have C3:=fun (W:World) (hW:Below w.heap.size w W)=>pisPlace14 i W
  by_cases h3:plM i
  case neg =>
   have HN:Hid (¬ (vdM (lv,ac,o,(k,i,j),r))):=fun h=>h3 (h.1.2.2.2.1.1)
   simp only [decide_eq_false h3] at C3
   clear h3
   refine (C3 _ (by assumption)).mono ?_
   rintro e w3 ⟨rfl,b3⟩
   have B3:=bel_trans B2 b3
   go_wp2_with fail
   go_ret
   exact ⟨ans14 ((decide_eq_false HN.out).symm.trans HA.out),B3⟩
  have K3:Hid (plM i):=h3
  simp only [decide_eq_true h3] at C3
  clear h3
  refine (C3 _ (by assumption)).mono ?_
  rintro e w3 ⟨rfl,b3⟩
  have B3:=bel_trans B2 b3
  have X3:=X2.below b3
  have c3_5:w3.cell? ⟨w.heap.size,5,none⟩=some (.int .i64 j):=X3.cell 5 _ rfl
  clear X2 B2 b3 C3
  go_wp2_with fail
  have C4:=fun (W:World) (hW:Below w.heap.size w W)=>pisPlace14 j W
  by_cases h4:plM j
  case neg =>
   have HN:Hid (¬ (vdM (lv,ac,o,(k,i,j),r))):=fun h=>h4 (h.1.2.2.2.1.2)
   simp only [decide_eq_false h4] at C4
   clear h4
   refine (C4 _ (by assumption)).mono ?_
   rintro e w4 ⟨rfl,b4⟩
   have B4:=bel_trans B3 b4
   go_wp2_with fail
   go_ret
   exact ⟨ans14 ((decide_eq_false HN.out).symm.trans HA.out),B4⟩
  have K4:Hid (plM j):=h4
  simp only [decide_eq_true h4] at C4
  clear h4
  refine (C4 _ (by assumption)).mono ?_
  rintro e w4 ⟨rfl,b4⟩
  have B4:=bel_trans B3 b4
  have X4:=X3.below b4
  have c4_6:w4.cell? ⟨w.heap.size,6,none⟩=some (.slice ra r.length rc):=X4.cell 6 _ rfl
  clear X3 B3 b4 C4
  go_wp2_with fail
  have C5:=fun (W:World) (hW:Below w.heap.size w W)=>pallE14 128 r _ W (hR.below hW)
  by_cases h5:r.length≤128∧∀ x∈r,edM x
  case neg =>
   have HN:Hid (¬ (vdM (lv,ac,o,(k,i,j),r))):=fun h=>h5 (⟨h.1.2.2.2.2,h.2.2⟩)
   simp only [decide_eq_false h5] at C5
   clear h5
   refine (C5 _ (by assumption)).mono ?_
   rintro e w5 ⟨rfl,b5⟩
   have B5:=bel_trans B4 b5
   go_wp2_with fail
   go_ret
   exact ⟨ans14 ((decide_eq_false HN.out).symm.trans HA.out),B5⟩
  have K5:Hid (r.length≤128∧∀ x∈r,edM x):=h5
  simp only [decide_eq_true h5] at C5
  clear h5
  refine (C5 _ (by assumption)).mono ?_
  rintro e w5 ⟨rfl,b5⟩
  have B5:=bel_trans B4 b5
  have X5:=X4.below b5
  clear X4 B4 b5 C5
  go_wp2_with fail
  go_ret
  exact ⟨ans14 ((decide_eq_true (show vdM (lv,ac,o,(k,i,j),r) from ⟨⟨K0.out,K1.out.1,K2.out,⟨K3.out,K4.out⟩,K5.out.1⟩,K1.out.2,K5.out.2⟩)).symm.trans HA.out),B5⟩
set_option maxHeartbeats 4000000 in
theorem pmayc14 (tn:List UInt8) (sq:Int) (pv rt:List UInt8) (ct lv k i j:Int) (ac:Bool) (oa:Option Addr) (oc:Nat) (o:List Int) (ra:Option Addr) (rc:Nat) (r:List Ed) (pa:Option Addr) (pc:Nat) (p:List Pf) (w:World) (hO:IsInts w (.slice oa o.length oc) o) (hR:IsEds w (.slice ra r.length rc) r) (hP:IsPfs w (.slice pa p.length pc) p):Calls Tryz.prog 22 #[.agg #[.string ⟨tn.toArray⟩,.int .i64 sq,.string ⟨pv.toArray⟩,.string ⟨rt.toArray⟩,.int .i64 ct,.int .i64 lv,.bool ac,.slice oa o.length oc,.int .i64 k,.int .i64 i,.int .i64 j,.slice ra r.length rc,.slice pa p.length pc]] w fun e w'=>e=.returned (.bool (decide (mayC (tn,sq,pv,rt,ct,(lv,ac,o,(k,i,j),r),p))))∧Below w.heap.size w w':=by
 have B0:=(Below.refl w.heap.size w).alloc (Nat.le_refl _) (.cells #[.string ⟨tn.toArray⟩,.int .i64 sq,.string ⟨pv.toArray⟩,.string ⟨rt.toArray⟩,.int .i64 ct,.int .i64 lv,.bool ac,.slice oa o.length oc,.int .i64 k,.int .i64 i,.int .i64 j,.slice ra r.length rc,.slice pa p.length pc] 35)
 have X0:=SBox.new w 35 #[.string ⟨tn.toArray⟩,.int .i64 sq,.string ⟨pv.toArray⟩,.string ⟨rt.toArray⟩,.int .i64 ct,.int .i64 lv,.bool ac,.slice oa o.length oc,.int .i64 k,.int .i64 i,.int .i64 j,.slice ra r.length rc,.slice pa p.length pc]
 obtain ⟨ans,hans⟩:∃ b,decide (mayC (tn,sq,pv,rt,ct,(lv,ac,o,(k,i,j),r),p))=b:=⟨_,rfl⟩
 rw [hans]
 have HA:Hid (decide (mayC (tn,sq,pv,rt,ct,(lv,ac,o,(k,i,j),r),p))=ans):=hans
 clear hans
 have c0_0:(w.alloc (.cells #[.string ⟨tn.toArray⟩,.int .i64 sq,.string ⟨pv.toArray⟩,.string ⟨rt.toArray⟩,.int .i64 ct,.int .i64 lv,.bool ac,.slice oa o.length oc,.int .i64 k,.int .i64 i,.int .i64 j,.slice ra r.length rc,.slice pa p.length pc] 35)).cell? ⟨w.heap.size,0,none⟩=some (.string ⟨tn.toArray⟩):=X0.cell 0 _ rfl
 have HE:Hid (pv=[]∨pv≠[]):=Classical.em _
 go_enter Tryz.func22,Tryz.ntmps22
 go_wp2_with fail
 have C1:=fun (W:World) (hW:Below w.heap.size w W)=>pwithin14 (tn.length:Int) 1 16 W
 by_cases h1:1≤(tn.length:Int)∧(tn.length:Int)≤16
 case neg =>
  have HN:Hid (¬ (mayC (tn,sq,pv,rt,ct,(lv,ac,o,(k,i,j),r),p))):=fun h=>h1 (⟨by have h9:1≤tn.length:=h.1.1.1;omega,by have h9:tn.length≤16:=h.1.1.2;omega⟩)
  simp only [decide_eq_false h1] at C1
  clear h1
  refine (C1 _ (by assumption)).mono ?_
  rintro e w1 ⟨rfl,b1⟩
  have B1:=bel_trans B0 b1
  go_wp2_with fail
  go_ret
  exact ⟨ans14 ((decide_eq_false HN.out).symm.trans HA.out),B1⟩
 have K1:Hid (1≤(tn.length:Int)∧(tn.length:Int)≤16):=h1
 simp only [decide_eq_true h1] at C1
 clear h1
 refine (C1 _ (by assumption)).mono ?_
 rintro e w1 ⟨rfl,b1⟩
 have B1:=bel_trans B0 b1
 have X1:=X0.below b1
 have c1_1:w1.cell? ⟨w.heap.size,1,none⟩=some (.int .i64 sq):=X1.cell 1 _ rfl
 clear X0 B0 b1 C1
 go_wp2_with fail
 have C2:=fun (W:World) (hW:Below w.heap.size w W)=>pwithin14 sq 1 1048576 W
 by_cases h2:1≤sq∧sq≤1048576
 case neg =>
  have HN:Hid (¬ (mayC (tn,sq,pv,rt,ct,(lv,ac,o,(k,i,j),r),p))):=fun h=>h2 (h.1.2.1)
  simp only [decide_eq_false h2] at C2
  clear h2
  refine (C2 _ (by assumption)).mono ?_
  rintro e w2 ⟨rfl,b2⟩
  have B2:=bel_trans B1 b2
  go_wp2_with fail
  go_ret
  exact ⟨ans14 ((decide_eq_false HN.out).symm.trans HA.out),B2⟩
 have K2:Hid (1≤sq∧sq≤1048576):=h2
 simp only [decide_eq_true h2] at C2
 clear h2
 refine (C2 _ (by assumption)).mono ?_
 rintro e w2 ⟨rfl,b2⟩
 have B2:=bel_trans B1 b2
 have X2:=X1.below b2
 have c2_2:w2.cell? ⟨w.heap.size,2,none⟩=some (.string ⟨pv.toArray⟩):=X2.cell 2 _ rfl
 have c2_3:w2.cell? ⟨w.heap.size,3,none⟩=some (.string ⟨rt.toArray⟩):=X2.cell 3 _ rfl
 clear X1 B1 b2 C2
 by_cases hp:pv=[]
 ·have e0:pv.isEmpty=true:=by subst hp;rfl
  have KP:Hid (pv.length=0∨pv.length=32):=by subst hp;exact .inl rfl
  clear hp HE
  go_wp2_with fail
  have C3:=fun (W:World) (hW:Below w.heap.size w W)=>pisSum14 rt W
  by_cases h3:rt.length=32
  case neg =>
   have HN:Hid (¬ (mayC (tn,sq,pv,rt,ct,(lv,ac,o,(k,i,j),r),p))):=fun h=>h3 (h.1.2.2.2.1)
   simp only [decide_eq_false h3] at C3
   clear h3
   refine (C3 _ (by assumption)).mono ?_
   rintro e w3 ⟨rfl,b3⟩
   have B3:=bel_trans B2 b3
   go_wp2_with fail
   go_ret
   exact ⟨ans14 ((decide_eq_false HN.out).symm.trans HA.out),B3⟩
  have K3:Hid (rt.length=32):=h3
  simp only [decide_eq_true h3] at C3
  clear h3
  refine (C3 _ (by assumption)).mono ?_
  rintro e w3 ⟨rfl,b3⟩
  have B3:=bel_trans B2 b3
  have X3:=X2.below b3
  have c3_4:w3.cell? ⟨w.heap.size,4,none⟩=some (.int .i64 ct):=X3.cell 4 _ rfl
  clear X2 B2 b3 C3
  go_wp2_with fail
  have C4:=fun (W:World) (hW:Below w.heap.size w W)=>pwithin14 ct 0 256 W
  by_cases h4:0≤ct∧ct≤256
  case neg =>
   have HN:Hid (¬ (mayC (tn,sq,pv,rt,ct,(lv,ac,o,(k,i,j),r),p))):=fun h=>h4 (h.1.2.2.2.2)
   simp only [decide_eq_false h4] at C4
   clear h4
   refine (C4 _ (by assumption)).mono ?_
   rintro e w4 ⟨rfl,b4⟩
   have B4:=bel_trans B3 b4
   go_wp2_with fail
   go_ret
   exact ⟨ans14 ((decide_eq_false HN.out).symm.trans HA.out),B4⟩
  have K4:Hid (0≤ct∧ct≤256):=h4
  simp only [decide_eq_true h4] at C4
  clear h4
  refine (C4 _ (by assumption)).mono ?_
  rintro e w4 ⟨rfl,b4⟩
  have B4:=bel_trans B3 b4
  have X4:=X3.below b4
  have c4_5:w4.cell? ⟨w.heap.size,5,none⟩=some (.int .i64 lv):=X4.cell 5 _ rfl
  have c4_6:w4.cell? ⟨w.heap.size,6,none⟩=some (.bool ac):=X4.cell 6 _ rfl
  have c4_7:w4.cell? ⟨w.heap.size,7,none⟩=some (.slice oa o.length oc):=X4.cell 7 _ rfl
  have c4_8:w4.cell? ⟨w.heap.size,8,none⟩=some (.int .i64 k):=X4.cell 8 _ rfl
  have c4_9:w4.cell? ⟨w.heap.size,9,none⟩=some (.int .i64 i):=X4.cell 9 _ rfl
  have c4_10:w4.cell? ⟨w.heap.size,10,none⟩=some (.int .i64 j):=X4.cell 10 _ rfl
  have c4_11:w4.cell? ⟨w.heap.size,11,none⟩=some (.slice ra r.length rc):=X4.cell 11 _ rfl
  clear X3 B3 b4 C4
  go_wp2_with fail
  have C5:=fun (W:World) (hW:Below w.heap.size w W)=>pverdictMay14 lv k i j ac oa oc o ra rc r W (hO.below hW) (hR.below hW)
  by_cases h5:vdM (lv,ac,o,(k,i,j),r)
  case neg =>
   have HN:Hid (¬ (mayC (tn,sq,pv,rt,ct,(lv,ac,o,(k,i,j),r),p))):=fun h=>h5 (h.2.1)
   simp only [decide_eq_false h5] at C5
   clear h5
   refine (C5 _ (by assumption)).mono ?_
   rintro e w5 ⟨rfl,b5⟩
   have B5:=bel_trans B4 b5
   go_wp2_with fail
   go_ret
   exact ⟨ans14 ((decide_eq_false HN.out).symm.trans HA.out),B5⟩
  have K5:Hid (vdM (lv,ac,o,(k,i,j),r)):=h5
  simp only [decide_eq_true h5] at C5
  clear h5
  refine (C5 _ (by assumption)).mono ?_
  rintro e w5 ⟨rfl,b5⟩
  have B5:=bel_trans B4 b5
  have X5:=X4.below b5
  have c5_12:w5.cell? ⟨w.heap.size,12,none⟩=some (.slice pa p.length pc):=X5.cell 12 _ rfl
  clear X4 B4 b5 C5
  go_wp2_with fail
  have C6:=fun (W:World) (hW:Below w.heap.size w W)=>pallP14 256 p _ W (hP.below hW)
  by_cases h6:p.length≤256∧∀ x∈p,pfM x
  case neg =>
   have HN:Hid (¬ (mayC (tn,sq,pv,rt,ct,(lv,ac,o,(k,i,j),r),p))):=fun h=>h6 (⟨h.2.2.1,h.2.2.2⟩)
   simp only [decide_eq_false h6] at C6
   clear h6
   refine (C6 _ (by assumption)).mono ?_
   rintro e w6 ⟨rfl,b6⟩
   have B6:=bel_trans B5 b6
   go_wp2_with fail
   go_ret
   exact ⟨ans14 ((decide_eq_false HN.out).symm.trans HA.out),B6⟩
  have K6:Hid (p.length≤256∧∀ x∈p,pfM x):=h6
  simp only [decide_eq_true h6] at C6
  clear h6
  refine (C6 _ (by assumption)).mono ?_
  rintro e w6 ⟨rfl,b6⟩
  have B6:=bel_trans B5 b6
  have X6:=X5.below b6
  clear X5 B5 b6 C6
  go_wp2_with fail
  go_ret
  exact ⟨ans14 ((decide_eq_true (show mayC (tn,sq,pv,rt,ct,(lv,ac,o,(k,i,j),r),p) from ⟨⟨⟨by show 1≤tn.length;have:=K1.out.1;omega,by show tn.length≤16;have:=K1.out.2;omega⟩,K2.out,KP.out,K3.out,K4.out⟩,K5.out,K6.out.1,K6.out.2⟩)).symm.trans HA.out),B6⟩
 ·have e0:pv.isEmpty=false:=by cases pv with | nil=>exact absurd rfl hp | cons a b=>rfl
  have HP0:Hid (pv≠[]):=hp
  clear hp HE
  go_wp2_with fail
  have C3:=fun (W:World) (hW:Below w.heap.size w W)=>pisSum14 pv W
  by_cases h3:pv.length=32
  case neg =>
   have HN:Hid (¬ (mayC (tn,sq,pv,rt,ct,(lv,ac,o,(k,i,j),r),p))):=fun h=>h3 (by rcases h.1.2.2.1 with h9 | h9;exact absurd (List.length_eq_zero_iff.1 h9) HP0.out;exact h9)
   simp only [decide_eq_false h3] at C3
   clear h3
   refine (C3 _ (by assumption)).mono ?_
   rintro e w3 ⟨rfl,b3⟩
   have B3:=bel_trans B2 b3
   go_wp2_with fail
   go_ret
   exact ⟨ans14 ((decide_eq_false HN.out).symm.trans HA.out),B3⟩
  have K3:Hid (pv.length=32):=h3
  simp only [decide_eq_true h3] at C3
  clear h3
  refine (C3 _ (by assumption)).mono ?_
  rintro e w3 ⟨rfl,b3⟩
  have B3:=bel_trans B2 b3
  have X3:=X2.below b3
  have c3_3:w3.cell? ⟨w.heap.size,3,none⟩=some (.string ⟨rt.toArray⟩):=X3.cell 3 _ rfl
  clear X2 B2 b3 C3
  go_wp2_with fail
  have C4:=fun (W:World) (hW:Below w.heap.size w W)=>pisSum14 rt W
  by_cases h4:rt.length=32
  case neg =>
   have HN:Hid (¬ (mayC (tn,sq,pv,rt,ct,(lv,ac,o,(k,i,j),r),p))):=fun h=>h4 (h.1.2.2.2.1)
   simp only [decide_eq_false h4] at C4
   clear h4
   refine (C4 _ (by assumption)).mono ?_
   rintro e w4 ⟨rfl,b4⟩
   have B4:=bel_trans B3 b4
   go_wp2_with fail
   go_ret
   exact ⟨ans14 ((decide_eq_false HN.out).symm.trans HA.out),B4⟩
  have K4:Hid (rt.length=32):=h4
  simp only [decide_eq_true h4] at C4
  clear h4
  refine (C4 _ (by assumption)).mono ?_
  rintro e w4 ⟨rfl,b4⟩
  have B4:=bel_trans B3 b4
  have X4:=X3.below b4
  have c4_4:w4.cell? ⟨w.heap.size,4,none⟩=some (.int .i64 ct):=X4.cell 4 _ rfl
  clear X3 B3 b4 C4
  go_wp2_with fail
  have C5:=fun (W:World) (hW:Below w.heap.size w W)=>pwithin14 ct 0 256 W
  by_cases h5:0≤ct∧ct≤256
  case neg =>
   have HN:Hid (¬ (mayC (tn,sq,pv,rt,ct,(lv,ac,o,(k,i,j),r),p))):=fun h=>h5 (h.1.2.2.2.2)
   simp only [decide_eq_false h5] at C5
   clear h5
   refine (C5 _ (by assumption)).mono ?_
   rintro e w5 ⟨rfl,b5⟩
   have B5:=bel_trans B4 b5
   go_wp2_with fail
   go_ret
   exact ⟨ans14 ((decide_eq_false HN.out).symm.trans HA.out),B5⟩
  have K5:Hid (0≤ct∧ct≤256):=h5
  simp only [decide_eq_true h5] at C5
  clear h5
  refine (C5 _ (by assumption)).mono ?_
  rintro e w5 ⟨rfl,b5⟩
  have B5:=bel_trans B4 b5
  have X5:=X4.below b5
  have c5_5:w5.cell? ⟨w.heap.size,5,none⟩=some (.int .i64 lv):=X5.cell 5 _ rfl
  have c5_6:w5.cell? ⟨w.heap.size,6,none⟩=some (.bool ac):=X5.cell 6 _ rfl
  have c5_7:w5.cell? ⟨w.heap.size,7,none⟩=some (.slice oa o.length oc):=X5.cell 7 _ rfl
  have c5_8:w5.cell? ⟨w.heap.size,8,none⟩=some (.int .i64 k):=X5.cell 8 _ rfl
  have c5_9:w5.cell? ⟨w.heap.size,9,none⟩=some (.int .i64 i):=X5.cell 9 _ rfl
  have c5_10:w5.cell? ⟨w.heap.size,10,none⟩=some (.int .i64 j):=X5.cell 10 _ rfl
  have c5_11:w5.cell? ⟨w.heap.size,11,none⟩=some (.slice ra r.length rc):=X5.cell 11 _ rfl
  clear X4 B4 b5 C5
  go_wp2_with fail
  have C6:=fun (W:World) (hW:Below w.heap.size w W)=>pverdictMay14 lv k i j ac oa oc o ra rc r W (hO.below hW) (hR.below hW)
  by_cases h6:vdM (lv,ac,o,(k,i,j),r)
  case neg =>
   have HN:Hid (¬ (mayC (tn,sq,pv,rt,ct,(lv,ac,o,(k,i,j),r),p))):=fun h=>h6 (h.2.1)
   simp only [decide_eq_false h6] at C6
   clear h6
   refine (C6 _ (by assumption)).mono ?_
   rintro e w6 ⟨rfl,b6⟩
   have B6:=bel_trans B5 b6
   go_wp2_with fail
   go_ret
   exact ⟨ans14 ((decide_eq_false HN.out).symm.trans HA.out),B6⟩
  have K6:Hid (vdM (lv,ac,o,(k,i,j),r)):=h6
  simp only [decide_eq_true h6] at C6
  clear h6
  refine (C6 _ (by assumption)).mono ?_
  rintro e w6 ⟨rfl,b6⟩
  have B6:=bel_trans B5 b6
  have X6:=X5.below b6
  have c6_12:w6.cell? ⟨w.heap.size,12,none⟩=some (.slice pa p.length pc):=X6.cell 12 _ rfl
  clear X5 B5 b6 C6
  go_wp2_with fail
  have C7:=fun (W:World) (hW:Below w.heap.size w W)=>pallP14 256 p _ W (hP.below hW)
  by_cases h7:p.length≤256∧∀ x∈p,pfM x
  case neg =>
   have HN:Hid (¬ (mayC (tn,sq,pv,rt,ct,(lv,ac,o,(k,i,j),r),p))):=fun h=>h7 (⟨h.2.2.1,h.2.2.2⟩)
   simp only [decide_eq_false h7] at C7
   clear h7
   refine (C7 _ (by assumption)).mono ?_
   rintro e w7 ⟨rfl,b7⟩
   have B7:=bel_trans B6 b7
   go_wp2_with fail
   go_ret
   exact ⟨ans14 ((decide_eq_false HN.out).symm.trans HA.out),B7⟩
  have K7:Hid (p.length≤256∧∀ x∈p,pfM x):=h7
  simp only [decide_eq_true h7] at C7
  clear h7
  refine (C7 _ (by assumption)).mono ?_
  rintro e w7 ⟨rfl,b7⟩
  have B7:=bel_trans B6 b7
  have X7:=X6.below b7
  clear X6 B6 b7 C7
  go_wp2_with fail
  go_ret
  exact ⟨ans14 ((decide_eq_true (show mayC (tn,sq,pv,rt,ct,(lv,ac,o,(k,i,j),r),p) from ⟨⟨⟨by show 1≤tn.length;have:=K1.out.1;omega,by show tn.length≤16;have:=K1.out.2;omega⟩,K2.out,.inr K3.out,K4.out,K5.out⟩,K6.out,K7.out.1,K7.out.2⟩)).symm.trans HA.out),B7⟩
end Go.Proofs.YtkkenfhlgpjmjaaGreatDoor
namespace Go.Proofs.YtkkenfhlgpjmjaaGreatDoor
set_option maxRecDepth 100000
open Go.RowKit
set_option linter.unusedVariables false
theorem assert14_is (w:World):(Instr.typeAssert (.iface 36 (.int .i64 3)) 20 36 true).run Tryz.prog w=.ok (.tuple #[.int .i64 3,.bool true]) w:=by kernel_rfl
theorem assert14_nil (w:World):(Instr.typeAssert .nilIface 20 36 true).run Tryz.prog w=.ok (.tuple #[.int .i64 0,.bool false]) w:=by kernel_rfl
theorem prec14_fault (pe:Nat) (x:Int) (w:World) (hc:w.cell? ⟨pe,0,none⟩=some (.int .i64 x)) (hz:w.frozen? ⟨pe,0,none⟩=false) :
 CallsD Tryz.prog 50 #[.pointer (some ⟨pe,0,none⟩)] (.panicking fault14) w fun e u' w' =>
  e=.returned (.tuple #[])∧u'=.panicking [{ v:=.iface 36 (.int .i64 3),recovered:=true }]∧w'=w.setCell ⟨pe,0,none⟩ (.int .i64 3):=by
 have hta:=assert14_is
 refine callsD_of_wpS Tryz.func50 rfl fun c₀ cs hu=>?_
 apply wpS_seq
 apply wpS_region
 simp [wpOpsS,go_sem,recoverD,hu,hta,Tryz.ntmps50,Exit.thenS]
 apply wpS_seq
 apply wpS_region
 simp [wpOpsS,go_sem,Exit.thenS]
 refine wpS_cond (t:=true) (by simp [Act.eval,Array.replicate]) ?_
 simp only [if_true]
 apply wpS_region
 simp [wpOpsS,go_sem,hc,hz,bodyPostS,results,Tryz.results50]
theorem prec14_idle (pe:Nat) (w:World) :
 CallsD Tryz.prog 50 #[.pointer (some ⟨pe,0,none⟩)] .returning w fun e u' w'=>e=.returned (.tuple #[])∧u'=.returning∧w'=w:=by
 have htn:=assert14_nil
 refine callsD_of_wpS Tryz.func50 rfl fun c₀ cs hu=>?_
 apply wpS_seq
 apply wpS_region
 simp [wpOpsS,go_sem,recoverD,hu,htn,Tryz.ntmps50,Exit.thenS]
 apply wpS_seq
 apply wpS_region
 simp [wpOpsS,go_sem,Exit.thenS]
 refine wpS_cond (t:=false) (by simp [Act.eval,Array.replicate]) ?_
 simp only [Bool.false_eq_true,if_false]
 refine wpS_of_wp (wp_skip ?_)
 cases c₀
 simp_all [bodyPostS,results,Tryz.results50]
theorem results_rc14 {P:Program} {fn:Func} {p q:Tmp} {ty t2:TypeId} (h:fn.results=#[.cell p ty,.cell q t2]) (tmps:Array Value) (w:World) (g:Nat) (t:TypeId) (cs:Array Value) (fr:Nat × Nat) (d:TypeDesc)
 (hp:tmps.getD p undef=.pointer (some ⟨g,0,none⟩)) (hg:w.heap[g]?=some (.cells cs t fr))
 (hu:P.underlying ty=some d) (hd:(match d with | .struct _ | .array _ _=>true | _=>false)=true) (hi:(P.info? ty).map (·.size)=some cs.size)
 (v:Value) (hv:((asAddr (tmps.getD q undef)).run P w).andThen (fun a w₁=>((loadVar t2 a).run P w₁))=Result.ok v w) :
 (results fn tmps).run P w=.ok (.tuple #[.agg cs,v]) w:=by
 have hp':tmps[p]?.getD undef=.pointer (some ⟨g,0,none⟩):=by simpa using hp
 have hv':((asAddr (tmps[q]?.getD undef)).run P w).andThen (fun a w₁=>((loadVar t2 a).run P w₁))=Result.ok v w:=by simpa using hv
 cases hq:(asAddr (tmps[q]?.getD undef)).run P w with
 | ok b w2 =>
   rw [hq] at hv'
   simp only [Result.andThen] at hv'
   simp [results,h,hp',asAddr,run_loadVar_row w g t ty cs fr d hg hu hd hi]
   simp only [asAddr] at hq
   simp [hq,hv']
 | _=>rw [hq] at hv';simp [Result.andThen] at hv'
theorem size_ct14:(Tryz.prog.info? 35).map (·.size)=some 13:=by kernel_rfl
section
variable {n0:Nat} {W:World} {tmps cs:Array Value} {x:Int} {R:Ending→World→Prop}
theorem door14_no (h2:tmps.getD 2 undef=.pointer (some ⟨n0,0,none⟩)) (h3:tmps.getD 3 undef=.pointer (some ⟨n0+1,0,none⟩)) (T:SBox W n0 35 cs) (hcs:cs.size=13) (E:SBox W (n0+1) 36 #[.int .i64 x])
 (hR:R (.returned (.tuple #[.agg cs,.int .i64 3])) (W.setCell ⟨n0+1,0,none⟩ (.int .i64 3))) :
 Leaves Tryz.prog Tryz.f20 tmps R [{ target:=.fn (.func 50) #[.pointer (some ⟨n0+1,0,none⟩)],args:=#[] }] (.panicking fault14) W:=by
 refine leaves_cons (f:=50) (args:=#[.pointer (some ⟨n0+1,0,none⟩)]) (by simp) (by simp [go_sem]) ?_
 refine (prec14_fault (n0+1) x W (E.cell 0 _ rfl) (E.frozen 0)).mono ?_
 rintro e u' w'' ⟨rfl,rfl,rfl⟩
 have T1:=T.other (n0+1) 0 (.int .i64 3) (by omega)
 have d1:(W.setCell ⟨n0+1,0,none⟩ (.int .i64 3)).cell? ⟨n0+1,0,none⟩=some (.int .i64 3):=(E.set 0 (.int .i64 3)).cell 0 _ rfl
 exact ⟨_,results_rc14 Tryz.results20 _ _ n0 35 _ (0,0) _ h2 T1 Tryz.underlying35 rfl (by rw [hcs];exact size_ct14) (.int .i64 3) (by rw [h3];simp [asAddr,go_sem,d1]),hR⟩
theorem door14_yes (h2:tmps.getD 2 undef=.pointer (some ⟨n0,0,none⟩)) (h3:tmps.getD 3 undef=.pointer (some ⟨n0+1,0,none⟩)) (T:SBox W n0 35 cs) (hcs:cs.size=13) (E:SBox W (n0+1) 36 #[.int .i64 x])
 (hR:R (.returned (.tuple #[.agg cs,.int .i64 x])) W) :
 Leaves Tryz.prog Tryz.f20 tmps R [{ target:=.fn (.func 50) #[.pointer (some ⟨n0+1,0,none⟩)],args:=#[] }] .returning W:=by
 refine leaves_cons (f:=50) (args:=#[.pointer (some ⟨n0+1,0,none⟩)]) (by simp) (by simp [go_sem]) ?_
 refine (prec14_idle (n0+1) W).mono ?_
 rintro e u' w'' ⟨rfl,rfl,rfl⟩
 have d1:w''.cell? ⟨n0+1,0,none⟩=some (.int .i64 x):=E.cell 0 _ rfl
 exact ⟨_,results_rc14 Tryz.results20 _ _ n0 35 _ (0,0) _ h2 T Tryz.underlying35 rfl (by rw [hcs];exact size_ct14) (.int .i64 x) (by rw [h3];simp [asAddr,go_sem,d1]),hR⟩
end
end Go.Proofs.YtkkenfhlgpjmjaaGreatDoor
namespace Go.Proofs.YtkkenfhlgpjmjaaGreatDoor
set_option maxRecDepth 100000
open Go.RowKit
theorem byte_info:(Tryz.prog.info? 5).map (fun i=>(i.zero,i.size,i.bytes))=some (some (.int .u8 0),1,1):=by kernel_rfl
end Go.Proofs.YtkkenfhlgpjmjaaGreatDoor
