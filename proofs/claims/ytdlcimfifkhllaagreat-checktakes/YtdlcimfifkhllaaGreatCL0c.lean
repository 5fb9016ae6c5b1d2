/-
  Verdicts, numbers and edges among the arguments, opened. What cartouchelaw13.shown and few answer. Histories grown and cut, in lists: of no program. Keys of a h
-/
import Derived.Test.YtdlcimfifkhllaaGreatCL0b
import Derived.Lib.Hide
import Derived.Deep.QuietTactic
namespace Go.Proofs.YtdlcimfifkhllaaGreat
set_option maxRecDepth 100000
open Go.ChangeShapes Go.WideShapes Go.ChangeAt Go.RowKit
set_option linter.unusedVariables false
theorem int_elem13 {H:Type} {enc:TypeId × Value→H} {W:World} (n:Nat) (cs':List Value) (d':DataW H) (p':List MemPlace) (hl:cs'.length=1) (h:DataW.trod enc Tryz.prog W 0 (fun _=>true) true n 3 cs'=some (d',p')):∃ x,cs'=intV x∧okN x:=by
 obtain ⟨n0,e0,hx,w0⟩:=DataW.trod_int Tryz.underlying3 h
 exact ⟨n0,by rw [e0];rfl,okN_wf w0⟩
theorem int_cells13 {H:Type} {enc:TypeId × Value→H} {W:World} {m:Nat} {c:Value} {d:DataW H} {p:List MemPlace}
 (hf:DataW.trod enc Tryz.prog W 0 (fun _=>true) true m 23 [c]=some (d,p)) (hw:(DataW.weights Tryz.prog 23 d).all (·≤ reachBytes)=true):∃ L:List Int,IsInts W c L∧(∀ x∈L,okN x)∧L.length*8≤reachBytes :=
 rec_cells (sz:=1) (rec:=intV) okN 8 Tryz.underlying23 (by kernel_rfl) (by omega) (by kernel_rfl) (by omega) (fun n cs' d' p' hl h hw'=>int_elem13 n cs' d' p' hl h) hf hw
theorem int_arg13 {H:Type} {enc:TypeId × Value→H} {W:World} {v:Value} {d:DataW H} {p:List MemPlace} (hv:∃ a n c,v=.slice a n c)
 (h:DataW.Trod enc Tryz.prog W 0 (fun _=>true) true 23 v d p) (hw:(DataW.weights Tryz.prog 23 d).all (·≤ reachBytes)=true):∃ L:List Int,IsInts W v L∧(∀ x∈L,okN x)∧L.length*8≤reachBytes:=by
 obtain ⟨a,n,c,rfl⟩:=hv
 obtain ⟨fuel,hf⟩:=h
 exact int_cells13 (by simpa [Value.cells] using hf) hw
theorem ed_cells13o {H:Type} {enc:TypeId × Value→H} {W:World} {m:Nat} {c:Value} {d:DataW H} {p:List MemPlace}
 (hf:DataW.trod enc Tryz.prog W 0 (fun _=>true) true m 26 [c]=some (d,p)) (hw:(DataW.weights Tryz.prog 26 d).all (·≤ reachBytes)=true):∃ L:List Ed,IsEds W c L∧(∀ x∈L,goodEd x)∧L.length*40≤reachBytes :=
 rec_cells (sz:=5) (rec:=edV) goodEd 40 Tryz.underlying26 (by kernel_rfl) (by omega) (by kernel_rfl) (by omega) (fun n cs' d' p' hl h hw'=>ed_elem n cs' d' p' hl h) hf hw
theorem shp_cell13 {H:Type} {enc:TypeId × Value→H} {W:World} {t e:TypeId} (ht:Tryz.prog.underlying t=some (.slice e)) {m:Nat} {c:Value} {d:DataW H} {p:List MemPlace}
 (hf:DataW.trod enc Tryz.prog W 0 (fun _=>true) true m t [c]=some (d,p)):c=.slice none 0 0∨∃ ad n k,c=.slice (some ad) n k:=by
 rcases DataW.trod_slice ht hf with ⟨hcs,_⟩ | ⟨a',len,cap,_,_,_,_,hcs,_⟩
 ·simp at hcs
  exact .inl hcs
 ·simp at hcs
  exact .inr ⟨_,_,_,hcs⟩
theorem bad_elem13 {H:Type} {enc:TypeId × Value→H} {W:World} (n:Nat) (cs':List Value) (d':DataW H) (p':List MemPlace) (hl:cs'.length=3) (h:DataW.trod enc Tryz.prog W 0 (fun _=>true) true n 25 cs'=some (d',p')):∃ x:Bd,cs'=badV x∧okN x.1∧okN x.2.1∧okN x.2.2:=by
 have hu:=Tryz.underlying25
 obtain ⟨xs,k,_,hx,hcl,hlen,hel⟩:=DataW.trod_struct hu h
 have hlen':xs.length=3:=hlen
 match xs,hlen',cs',hl with
 | [y0,y1,y2],_,[c0,c1,c2],_ =>
   have k3:Tryz.prog.cellsOf 3=1:=by kernel_rfl
   have g0:=hel 0 _ rfl
   have g1:=hel 1 _ rfl
   have g2:=hel 2 _ rfl
   simp [k3] at g0 g1 g2
   obtain ⟨n0,e0,rfl,w0⟩:=DataW.trod_int Tryz.underlying3 g0
   obtain ⟨n1,e1,rfl,w1⟩:=DataW.trod_int Tryz.underlying3 g1
   obtain ⟨n2,e2,rfl,w2⟩:=DataW.trod_int Tryz.underlying3 g2
   simp at e0 e1 e2
   subst e0 e1 e2
   exact ⟨(n0,n1,n2),rfl,okN_wf w0,okN_wf w1,okN_wf w2⟩
theorem vd_elem13 {H:Type} {enc:TypeId × Value→H} {W:World} (n:Nat) (cs':List Value) (d':DataW H) (p':List MemPlace) (hl:cs'.length=7) (h:DataW.trod enc Tryz.prog W 0 (fun _=>true) true n 28 cs'=some (d',p')) (hw:(DataW.weights Tryz.prog 28 d').all (·≤ reachBytes)=true) :
 ∃ (x:Vd) (vo vr:Value),cs'=(vdC x vo vr).toList∧IsInts W vo x.2.2.1∧IsEds W vr x.2.2.2.2∧okV x:=by
 have hu:=Tryz.underlying28
 obtain ⟨xs,k,_,hx,hcl,hlen,hel⟩:=DataW.trod_struct hu h
 have hlen':xs.length=5:=hlen
 match xs,hlen',cs',hl with
 | [y0,y1,y2,y3,y4],_,[c0,c1,c2,c3,c4,c5,c6],_ =>
   have k3:Tryz.prog.cellsOf 3=1:=by kernel_rfl
   have k4:Tryz.prog.cellsOf 4=1:=by kernel_rfl
   have k5:Tryz.prog.cellsOf 23=1:=by kernel_rfl
   have k6:Tryz.prog.cellsOf 25=3:=by kernel_rfl
   have k7:Tryz.prog.cellsOf 26=1:=by kernel_rfl
   have g0:=hel 0 _ rfl
   have g1:=hel 1 _ rfl
   have g2:=hel 2 _ rfl
   have g3:=hel 3 _ rfl
   have g4:=hel 4 _ rfl
   simp [k3,k4,k5,k6,k7] at g0 g1 g2 g3 g4
   have hd:=congrArg Prod.fst hx
   simp at hd
   subst hd
   simp only [DataW.weights,hu,List.map_cons,List.map_nil] at hw
   simp only [DataW.weightsEach,List.append_nil,List.all_append,Bool.and_eq_true] at hw
   obtain ⟨n0,e0,r0,w0⟩:=DataW.trod_int Tryz.underlying3 g0
   obtain ⟨b1,e1,r1⟩:=DataW.trod_bool Tryz.underlying4 g1
   obtain ⟨o,ho,go,lo⟩:=int_cells13 (d:=y2.1) (p:=y2.2) g2 hw.2.2.1
   obtain ⟨⟨b,bq,br⟩,hb,gb⟩:=bad_elem13 _ _ y3.1 y3.2 rfl g3
   obtain ⟨E,hE,gE,_⟩:=ed_cells13o (d:=y4.1) (p:=y4.2) g4 hw.2.2.2.2
   simp at e0 e1
   simp [badV] at hb
   obtain ⟨rfl,rfl,rfl⟩:=hb
   subst e0 e1
   exact ⟨(n0,b1,o,(b,bq,br),E),c2,c6,rfl,ho,hE,okN_wf w0,gb,go,gE,by simp only [reachBytes] at lo;simp only;omega⟩
theorem vd_val13 {H:Type} {enc:TypeId × Value→H} {W:World} {r:Reach} {b0:Nat} {v:Value} {d:DataW H} {p:List MemPlace} (hv:Value.okWide Tryz.prog W r b0 28 v)
 (h:DataW.Trod enc Tryz.prog W 0 (fun _=>true) true 28 v d p) (hw:(DataW.weights Tryz.prog 28 d).all (·≤ reachBytes)=true):∃ (x:Vd) (vo vr:Value),v=.agg (vdC x vo vr)∧IsInts W vo x.2.2.1∧IsEds W vr x.2.2.2.2∧okV x:=by
 obtain ⟨cs,rfl,hsz⟩:=okWide_struct Tryz.underlying28 hv
 obtain ⟨fuel,hf⟩:=h
 have hc:Tryz.prog.cellsOf 28=7:=by kernel_rfl
 obtain ⟨x,vo,vr,hx,h1,h2,h3⟩:=vd_elem13 fuel cs.toList d p (by rw [Array.length_toList,hsz,hc]) (by simpa [Value.cells] using hf) hw
 refine ⟨x,vo,vr,?_,h1,h2,h3⟩
 have:cs=vdC x vo vr:=Array.toList_inj.1 hx
 rw [this]
theorem in_elem13 {H:Type} {enc:TypeId × Value→H} {W:World} (n:Nat) (cs':List Value) (d':DataW H) (p':List MemPlace) (hl:cs'.length=4) (h:DataW.trod enc Tryz.prog W 0 (fun _=>true) true n 44 cs'=some (d',p')) (hw:(DataW.weights Tryz.prog 44 d').all (·≤ reachBytes)=true) :
 ∃ (vh:Value) (t:List Ev) (level:Int) (vl:Value) (l:List Ed) (m:Int),cs'=[vh,.int .i64 level,vl,.int .i64 m]∧IsEvs W vh t∧(∀ x∈t,goodE x)∧okN level∧IsEds W vl l∧(∀ x∈l,goodEd x)∧(vl=.slice none 0 0∨∃ ad n k,vl=.slice (some ad) n k)∧okN m:=by
 have hu:=Tryz.underlying44
 obtain ⟨xs,k,_,hx,hcl,hlen,hel⟩:=DataW.trod_struct hu h
 have hlen':xs.length=4:=hlen
 match xs,hlen',cs',hl with
 | [y0,y1,y2,y3],_,[c0,c1,c2,c3],_ =>
   have k3:Tryz.prog.cellsOf 3=1:=by kernel_rfl
   have k5:Tryz.prog.cellsOf 22=1:=by kernel_rfl
   have k7:Tryz.prog.cellsOf 26=1:=by kernel_rfl
   have g0:=hel 0 _ rfl
   have g1:=hel 1 _ rfl
   have g2:=hel 2 _ rfl
   have g3:=hel 3 _ rfl
   simp [k3,k5,k7] at g0 g1 g2 g3
   have hd:=congrArg Prod.fst hx
   simp at hd
   subst hd
   simp only [DataW.weights,hu,List.map_cons,List.map_nil] at hw
   simp only [DataW.weightsEach,List.append_nil,List.all_append,Bool.and_eq_true] at hw
   obtain ⟨t,T,G,_⟩:=ev_cells (d:=y0.1) (p:=y0.2) g0 hw.1
   obtain ⟨n1,e1,r1,w1⟩:=DataW.trod_int Tryz.underlying3 g1
   have sh:=shp_cell13 (d:=y2.1) (p:=y2.2) Tryz.underlying26 g2
   obtain ⟨E,hE,gE,_⟩:=ed_cells13o (d:=y2.1) (p:=y2.2) g2 hw.2.2.1
   obtain ⟨n3,e3,r3,w3⟩:=DataW.trod_int Tryz.underlying3 g3
   simp at e1 e3
   subst e1 e3
   exact ⟨c0,t,n1,c2,E,n3,rfl,T,G,okN_wf w1,hE,gE,sh,okN_wf w3⟩
theorem in_val13 {H:Type} {enc:TypeId × Value→H} {W:World} {r:Reach} {b0:Nat} {v:Value} {d:DataW H} {p:List MemPlace} (hv:Value.okWide Tryz.prog W r b0 44 v)
 (h:DataW.Trod enc Tryz.prog W 0 (fun _=>true) true 44 v d p) (hw:(DataW.weights Tryz.prog 44 d).all (·≤ reachBytes)=true):∃ (vh:Value) (t:List Ev) (level:Int) (vl:Value) (l:List Ed) (m:Int),v=.agg #[vh,.int .i64 level,vl,.int .i64 m]∧IsEvs W vh t∧(∀ x∈t,goodE x)∧okN level∧IsEds W vl l∧(∀ x∈l,goodEd x)∧(vl=.slice none 0 0∨∃ ad n k,vl=.slice (some ad) n k)∧okN m:=by
 obtain ⟨cs,rfl,hsz⟩:=okWide_struct Tryz.underlying44 hv
 obtain ⟨fuel,hf⟩:=h
 have hc:Tryz.prog.cellsOf 44=4:=by kernel_rfl
 obtain ⟨vh,t,level,vl,l,m,hx,rest⟩:=in_elem13 fuel cs.toList d p (by rw [Array.length_toList,hsz,hc]) (by simpa [Value.cells] using hf) hw
 refine ⟨vh,t,level,vl,l,m,?_,rest⟩
 have:cs=#[vh,.int .i64 level,vl,.int .i64 m]:=Array.toList_inj.1 hx
 rw [this]
end Go.Proofs.YtdlcimfifkhllaaGreat
namespace Go.Proofs.YtdlcimfifkhllaaGreat
set_option maxRecDepth 100000
open Go.RowKit
set_option linter.unusedVariables false
attribute [local go_sem] ba_size
abbrev fewK (h:List Ev):Prop:=(∀ x∈h,0≤x.2.1∧x.2.1≤60)∧h.length≤80
theorem fewK.few {h:List Ev} (hk:fewK h):fewH h:=⟨fun x hx=>by have:=hk.1 x hx;omega,by have:=hk.2;omega⟩
abbrev sh13:List Ev:=[(1,1,[],[]),(3,1,[97],[120]),(2,1,[97],[]),(4,1,[],[])]
theorem sh13_a:checkV sh13 (1,true,[1],(0,0,0),[])=14:=by decide +kernel
theorem sh13_b:checkV sh13 (1,false,[],(3,2,1),[])=0:=by decide +kernel
theorem own_lit13 (w:World) (e n:Nat) (L:List Ev) (hn:L.length=n) (hs:n≤1000):(w.alloc (.cells (recV evV L).toArray e)).ownsRow w.heap.size e 4 (.slice (some ⟨w.heap.size,0,none⟩) n n) n (recV evV L) :=
 ⟨by rw [recV_length evV_len,hn],.inr ⟨w.heap.size,n,_,rfl,Nat.le_refl _,SBox.new w e _,Nat.le_refl _,by unfold maxLen;omega,by rw [List.size_toArray,recV_length evV_len,hn],by rw [List.toList_toArray,List.take_of_length_le (by rw [recV_length evV_len,hn];exact Nat.le_refl _)]⟩⟩
theorem own_int13 (w:World) (e n:Nat) (L:List Int) (hn:L.length=n) (hs:n≤1000):(w.alloc (.cells (recV intV L).toArray e)).ownsRow w.heap.size e 1 (.slice (some ⟨w.heap.size,0,none⟩) n n) n (recV intV L) :=
 ⟨by rw [recV_length intV_len,hn],.inr ⟨w.heap.size,n,_,rfl,Nat.le_refl _,SBox.new w e _,Nat.le_refl _,by unfold maxLen;omega,by rw [List.size_toArray,recV_length intV_len,hn],by rw [List.toList_toArray,List.take_of_length_le (by rw [recV_length intV_len,hn];exact Nat.le_refl _)]⟩⟩
set_option maxHeartbeats 2000000 in
theorem shown13_any (C:P13C) (w:World):Calls Tryz.prog 10 #[] w fun e w'=>e=.returned (.bool true)∧Below w.heap.size w w':=by
 have O1:(w.alloc (.cells #[.int .i64 1,.int .i64 1,.string ⟨#[]⟩,.string ⟨#[]⟩,.int .i64 3,.int .i64 1,.string ⟨#[97]⟩,.string ⟨#[120]⟩,.int .i64 2,.int .i64 1,.string ⟨#[97]⟩,.string ⟨#[]⟩,.int .i64 4,.int .i64 1,.string ⟨#[]⟩,.string ⟨#[]⟩] 49)).ownsRow w.heap.size 49 4 (.slice (some ⟨w.heap.size,0,none⟩) 4 4) 4 (recV evV sh13):=own_lit13 w 49 4 sh13 rfl (by omega)
 have T1:=IsRec.own (L:=sh13) evV_len (by omega) O1 (by omega)
 have B1:=(Below.refl w.heap.size w).alloc (Nat.le_refl _) (.cells #[.int .i64 1,.int .i64 1,.string ⟨#[]⟩,.string ⟨#[]⟩,.int .i64 3,.int .i64 1,.string ⟨#[97]⟩,.string ⟨#[120]⟩,.int .i64 2,.int .i64 1,.string ⟨#[97]⟩,.string ⟨#[]⟩,.int .i64 4,.int .i64 1,.string ⟨#[]⟩,.string ⟨#[]⟩] 49)
 generalize hW1:w.alloc (.cells #[.int .i64 1,.int .i64 1,.string ⟨#[]⟩,.string ⟨#[]⟩,.int .i64 3,.int .i64 1,.string ⟨#[97]⟩,.string ⟨#[120]⟩,.int .i64 2,.int .i64 1,.string ⟨#[97]⟩,.string ⟨#[]⟩,.int .i64 4,.int .i64 1,.string ⟨#[]⟩,.string ⟨#[]⟩] 49)=W1 at T1 B1
 have O2:(W1.alloc (.cells #[.int .i64 1] 3)).ownsRow W1.heap.size 3 1 (.slice (some ⟨W1.heap.size,0,none⟩) 1 1) 1 (recV intV [1]):=own_int13 W1 3 1 [1] rfl (by omega)
 have T2:=IsRec.own (L:=[1]) intV_len (by omega) O2 (by omega)
 have B2:=B1.alloc B1.size (.cells #[.int .i64 1] 3)
 have b12:=(Below.refl W1.heap.size W1).alloc (Nat.le_refl _) (.cells #[.int .i64 1] 3)
 have gE:∀ x∈sh13,goodE x:=by unfold goodE;simp
 have gF:fewH sh13:=by decide
 have K1:=C.check sh13 _ _ (.slice none 0 0) (1,true,[1],(0,0,0),[]) _ (T1.below b12) gE gF (by unfold okV okN;simp) T2 (IsRec.nil _ _ _) (by simp)
 have K2:=Lib.hid (fun W (hW:Below W1.heap.size W1 W)=>C.check sh13 _ (.slice none 0 0) (.slice none 0 0) (1,false,[],(3,2,1),[]) W (T1.below hW) gE gF (by unfold okV okN;simp) (IsRec.nil _ _ _) (IsRec.nil _ _ _) (by simp))
 rw [sh13_a] at K1
 rw [sh13_b] at K2
 clear O1 O2 T1 T2
 go_enter Tryz.func10,Tryz.ntmps10
 go_wp2_with fail
 refine K1.mono ?_
 rintro e w2 ⟨rfl,b2⟩
 go_wp2_with fail
 refine (K2.out _ (bel_trans b12 b2)).mono ?_
 rintro e w3 ⟨rfl,b3⟩
 go_wp2_with fail
 go_ret
 exact ⟨rfl,bel_trans B2 (bel_trans b2 b3)⟩
set_option maxHeartbeats 1000000 in
theorem few13_any (v:Value) (h:List Ev) (w:World) (hT:IsEvs w v h):Calls Tryz.prog 11 #[v] w fun e w'=>e=.returned (.bool (decide (fewK h)))∧Below w.heap.size w w':=by
 obtain ⟨a,cap,rfl,h1,h2,h3,HC⟩:=hT.reads
 obtain ⟨n,hn⟩:∃ n,h.length=n:=⟨_,rfl⟩
 have HN:Hid (h.length=n):=hn
 obtain ⟨fb,hfb⟩:∃ fb,decide (fewK h)=fb:=⟨_,rfl⟩
 have HB:Hid (decide (fewK h)=fb):=hfb
 rw [hfb]
 rw [hn] at h1 h3 ⊢
 clear hT hn hfb
 go_enter Tryz.func11,Tryz.ntmps11
 go_wp2_with fail
 go_loopw [3] (fun i wr=>∃ k:Nat,k≤n∧i=.int .i64 k∧Hid (∀ j,j < k→0≤(ev h j).2.1∧(ev h j).2.1≤60)∧Below w.heap.size w wr) (fun i _=>n - (intOf i).toNat)
 case atStart=>exact ⟨0,Nat.zero_le _,rfl,(fun j hj=>by omega),Below.refl _ _⟩
 case round =>
  obtain ⟨k,hk,rfl,HA,hbw⟩:=hrel
  by_cases hlt:k < n
  ·have hk1:k < h.length:=by have:=HN.out;omega
   have jk:(k:Int) < (n:Int):=by omega
   obtain ⟨bb,off,rfl,HQ⟩:=HC.out (by omega)
   obtain ⟨_,c1,_,_⟩:=HQ.out k hk1 _ hbw
   obtain ⟨t,ht⟩:∃ t,(ev h k).2.1=t:=⟨_,rfl⟩
   rw [ht] at c1
   have HT:Hid ((ev h k).2.1=t):=ht
   clear ht
   by_cases d0:t < 0
   ·have HF:Hid (decide (fewK h)=false):=decide_eq_false (fun hh=>by have:=(hh.1 _ (List.getElem_mem hk1)).1;rw [← ev_get h k hk1,HT.out] at this;omega)
    go_wp2_with fail
    go_ret
    exact ⟨by rw [← HB.out,HF.out];rfl,hbw⟩
   ·by_cases d1:60 < t
    ·have HF:Hid (decide (fewK h)=false):=decide_eq_false (fun hh=>by have:=(hh.1 _ (List.getElem_mem hk1)).2;rw [← ev_get h k hk1,HT.out] at this;omega)
     go_wp2_with fail
     go_ret
     exact ⟨by rw [← HB.out,HF.out];rfl,hbw⟩
    ·have HA2:Hid (∀ j,j < k+1→0≤(ev h j).2.1∧(ev h j).2.1≤60):=fun j hj=>by
      rcases Nat.lt_or_ge j k with hj2 | hj2
      ·exact HA.out j hj2
      ·obtain rfl:j=k:=by omega
       rw [HT.out]
       omega
     go_wp2_with fail
     refine ⟨⟨k+1,by omega,by first | go_num | simp,HA2,hbw⟩,by simp [intOf];omega⟩
  ·obtain rfl:k=n:=by omega
   have jk:¬ (k:Int) < (k:Int):=by omega
   by_cases d:k≤80
   ·have HF:Hid (decide (fewK h)=true):=decide_eq_true ⟨fun x hx=>by
     obtain ⟨j,hj,rfl⟩:=List.getElem_of_mem hx
     rw [← ev_get h j hj]
     exact HA.out j (by rw [← HN.out];exact hj),by rw [HN.out];exact d⟩
    have j2:(k:Int)≤80:=by omega
    go_wp2_with fail
    go_ret
    exact ⟨by rw [← HB.out,HF.out];rfl,hbw⟩
   ·have HF:Hid (decide (fewK h)=false):=decide_eq_false (fun hh=>d (by rw [← HN.out];exact hh.2))
    have j2:¬ (k:Int)≤80:=by omega
    go_wp2_with fail
    go_ret
    exact ⟨by rw [← HB.out,HF.out];rfl,hbw⟩
theorem keysF_snoc (x:Ev):∀ (l:List Ev) (acc:List (List UInt8)),keysF acc (l++[x])=if keyedE x.1 then insK x.2.2.1 (keysF acc l) else keysF acc l
 | [],acc=>by show keysF _ []=_;rw [keysF];rfl
 | y::l,acc=>by
   show keysF acc (y::(l++[x]))=_
   rw [keysF,keysF_snoc x l]
   rfl
theorem insK_split (k:List UInt8):∀ (K:List (List UInt8)) (q:Nat) (hq:q≤K.length) (hl:∀ j (h:j < q),lessB (K[j]'(by omega)) k=true) (hn:∀ h:q < K.length,lessB (K[q]'h) k=false),
 insK k K=if ∃ h:q < K.length,K[q]'h=k then K else K.take q++k::K.drop q
 | [],q,hq,hl,hn=>by
   obtain rfl:q=0:=by simpa using hq
   rw [insK,if_neg (by rintro ⟨h,_⟩;simp at h)]
   rfl
 | x::K,0,hq,hl,hn=>by
   have:=hn (by simp)
   simp only [List.getElem_cons_zero] at this
   rw [insK,if_neg (by rw [this];simp)]
   by_cases hx:x=k
   ·rw [if_pos hx,if_pos ⟨by simp,hx⟩]
   ·rw [if_neg hx,if_neg (by rintro ⟨_,h⟩;exact hx h)]
    rfl
 | x::K,q+1,hq,hl,hn=>by
   have h0:=hl 0 (by omega)
   simp only [List.getElem_cons_zero] at h0
   rw [insK,if_pos h0,insK_split k K q (by simpa using hq) (fun j h=>by have:=hl (j+1) (by omega);simpa using this) (fun h=>by have:=hn (by simpa using h);simpa using this)]
   by_cases hx:∃ h:q < K.length,K[q]'h=k
   ·rw [if_pos hx,if_pos (by obtain ⟨h,e⟩:=hx;exact ⟨by simpa using h,by simpa using e⟩)]
   ·rw [if_neg hx,if_neg (by rintro ⟨h,e⟩;exact hx ⟨by simpa using h,by simpa using e⟩)]
    rfl
theorem insK_len (k:List UInt8):∀ K:List (List UInt8),(insK k K).length≤K.length+1
 | []=>by rw [insK];simp
 | x::K=>by
   rw [insK]
   by_cases h1:lessB x k=true
   ·rw [if_pos h1];have:=insK_len k K;simp only [List.length_cons];omega
   ·rw [if_neg h1]
    by_cases h2:x=k
    ·rw [if_pos h2];simp
    ·rw [if_neg h2];simp
theorem lessB_same (x y:UInt8) (l m:List UInt8) (h:x=y):lessB (x::l) (y::m)=lessB l m:=by
 subst h
 rw [lessB,if_neg (by simp),if_pos rfl]
theorem lessB_diff (x y:UInt8) (l m:List UInt8) (h:x≠y):lessB (x::l) (y::m)=decide (x.toNat < y.toNat):=by
 rw [lessB,if_neg h]
 by_cases hx:x < y
 ·rw [if_pos hx,decide_eq_true (UInt8.lt_iff_toNat_lt.1 hx)]
 ·rw [if_neg hx,decide_eq_false (fun hh=>hx (UInt8.lt_iff_toNat_lt.2 hh))]
theorem lessB_nil (m:List UInt8):lessB [] m=decide (0 < m.length):=by
 cases m with
 | nil=>rfl
 | cons _ _=>rw [lessB];simp
theorem lessB_cons_nil (x:UInt8) (l:List UInt8):lessB (x::l) []=false:=by rw [lessB]
theorem lives_len (h:List Ev):(livesL h).length≤h.length:=by
 unfold livesL
 have:=List.length_filterMap_le (fun i=>if fstL h (ev h i).2.1 i=none then findL h (ev h i).2.1 else none) (List.range h.length)
 rw [List.length_range] at this
 exact this
theorem vers_len (h:List Ev) (key:List UInt8):(versL h key).length≤h.length:=by
 unfold versL
 have:=List.length_filterMap_le (verOf h key) (List.range h.length)
 rw [List.length_range] at this
 exact this
theorem keysF_len:∀ (l:List Ev) (acc:List (List UInt8)),(keysF acc l).length≤acc.length+l.length
 | [],acc=>by rw [keysF];simp
 | x::l,acc=>by
   rw [keysF]
   have h1:=keysF_len l (if keyedE x.1 then insK x.2.2.1 acc else acc)
   have h2:(if keyedE x.1 then insK x.2.2.1 acc else acc).length≤acc.length+1:=by
    by_cases hk:keyedE x.1
    ·rw [if_pos hk];exact insK_len _ _
    ·rw [if_neg hk];omega
   simp only [List.length_cons]
   omega
theorem keys_len (h:List Ev):(keysL h).length≤h.length:=by
 have:=keysF_len h []
 simpa [keysL] using this
theorem getD_at {α:Type} (l:List α) (d:α) (j:Nat) (h:j < l.length):l.getD j d=l[j]:=by rw [List.getD_eq_getElem?_getD,List.getElem?_eq_getElem h,Option.getD_some]
theorem IsInts.reads {w:World} {v:Value} {L:List Int} (hT:IsInts w v L):∃ a cap,v=.slice a L.length cap∧L.length≤cap∧cap≤9223372036854775807∧L.length≤140737488351232 ∧
 Hid (0 < L.length→∃ b off,a=some ⟨b,off,none⟩∧Hid (∀ j,j < L.length→∀ V,Below w.heap.size w V→V.cell? ⟨b,off+j,none⟩=some (.int .i64 (L.getD j 0)))):=by
 obtain ⟨a,cap,rfl,h1,h2,h3,HC⟩:=hT.some_at
 refine ⟨a,cap,rfl,h1,h2,h3,?_⟩
 intro h0
 obtain ⟨b,off,rfl,hlt,_⟩:=HC.out 0 h0
 refine ⟨b,off,rfl,?_⟩
 intro j hj V hV
 obtain ⟨b',off',hbo,_,hc⟩:=HC.out j hj
 obtain ⟨rfl,rfl⟩:b=b'∧off=off':=by simpa using hbo
 have:=hc 0 (.int .i64 L[j]) rfl
 rw [getD_at L 0 j hj]
 refine (hV.cell (p:=⟨b,off+j,none⟩) hlt).trans ?_
 simpa using this
set_option maxHeartbeats 2000000 in
theorem rfirst_any (h:List Ev) (v:Value) (w:World) (hT:IsEvs w v h) (t:Int) (m:Nat) (hm:m≤h.length) :
 Calls Tryz.prog 41 #[v,.int .i64 t,.int .i64 (m:Int)] w fun e w'=>e=.returned (.int .i64 (oI (fstL h t m)))∧Below w.heap.size w w':=by
 obtain ⟨a,cap,rfl,h1,h2,h3,HC⟩:=hT.reads
 obtain ⟨n,hn⟩:∃ n,h.length=n:=⟨_,rfl⟩
 have HN:Hid (h.length=n):=hn
 rw [hn] at h1 h3 hm ⊢
 clear hT hn
 go_enter Tryz.func41,Tryz.ntmps41
 go_wp2_with fail
 go_loopw [7] (fun i wr=>∃ k:Nat,k≤m∧i=.int .i64 k∧Hid (∀ j,j < k→ofTxn h t j=false)∧Below w.heap.size w wr) (fun i _=>m - (intOf i).toNat)
 case atStart=>exact ⟨0,Nat.zero_le _,rfl,(fun j hj=>by omega),Below.refl _ _⟩
 case round =>
  obtain ⟨k,hk,rfl,HA,hbw⟩:=hrel
  by_cases hlt:k < m
  ·have hk1:k < h.length:=by have:=HN.out;omega
   have hkn:k < n:=by omega
   obtain ⟨bb,off,rfl,HQ⟩:=HC.out (by omega)
   obtain ⟨c0,c1,c2,c3⟩:=HQ.out k hk1 _ hbw
   obtain ⟨⟨x0,x1,x2,x3⟩,hx⟩:∃ x,ev h k=x:=⟨_,rfl⟩
   have HX:Hid (ev h k=(x0,x1,x2,x3)):=hx
   rw [hx] at c0 c1 c2 c3
   simp only at c0 c1 c2 c3
   clear hx
   by_cases d:x1=t
   ·have e1:(x1==t)=true:=by rw [d];exact beq_self_eq_true _
    have HR:Hid (fstL h t m=some k):=(fi_some _ _ _).2 ⟨hlt,by show decide _=true;rw [HX.out];exact decide_eq_true (d),HA.out⟩
    go_wp2_with fail
    go_ret
    exact ⟨by rw [HR.out];rfl,hbw⟩
   ·have e1:(x1==t)=false:=beq_eq_false_iff_ne.2 d
    have HA':Hid (∀ j,j < k+1→ofTxn h t j=false):=upto_next _ k HA.out (by show decide _=false;rw [HX.out];exact decide_eq_false (d))
    go_wp2_with fail
    refine ⟨?relrfirst_any1,?mearfirst_any1⟩
    case relrfirst_any1=>exact ⟨k+1,by omega,by first | go_num | simp,HA',hbw⟩
    case mearfirst_any1=>simp [intOf];omega
  ·have HR:Hid (fstL h t m=none):=(fi_none _ _).2 (by
    obtain rfl:k=m:=by omega
    exact HA.out)
   go_wp2_with fail
   go_ret
   exact ⟨by rw [HR.out];rfl,hbw⟩
set_option maxHeartbeats 2000000 in
theorem rend_any (h:List Ev) (v:Value) (w:World) (hT:IsEvs w v h) (t:Int) (m:Nat) (hm:m≤h.length) :
 Calls Tryz.prog 42 #[v,.int .i64 t,.int .i64 (m:Int)] w fun e w'=>e=.returned (.int .i64 (oI (endL h t m)))∧Below w.heap.size w w':=by
 obtain ⟨a,cap,rfl,h1,h2,h3,HC⟩:=hT.reads
 obtain ⟨n,hn⟩:∃ n,h.length=n:=⟨_,rfl⟩
 have HN:Hid (h.length=n):=hn
 rw [hn] at h1 h3 hm ⊢
 clear hT hn
 go_enter Tryz.func42,Tryz.ntmps42
 go_wp2_with fail
 go_loopw [7] (fun i wr=>∃ k:Nat,k≤m∧i=.int .i64 k∧Hid (∀ j,j < k→isEnd h t j=false)∧Below w.heap.size w wr) (fun i _=>m - (intOf i).toNat)
 case atStart=>exact ⟨0,Nat.zero_le _,rfl,(fun j hj=>by omega),Below.refl _ _⟩
 case round =>
  obtain ⟨k,hk,rfl,HA,hbw⟩:=hrel
  by_cases hlt:k < m
  ·have hk1:k < h.length:=by have:=HN.out;omega
   have hkn:k < n:=by omega
   obtain ⟨bb,off,rfl,HQ⟩:=HC.out (by omega)
   obtain ⟨c0,c1,c2,c3⟩:=HQ.out k hk1 _ hbw
   obtain ⟨⟨x0,x1,x2,x3⟩,hx⟩:∃ x,ev h k=x:=⟨_,rfl⟩
   have HX:Hid (ev h k=(x0,x1,x2,x3)):=hx
   rw [hx] at c0 c1 c2 c3
   simp only at c0 c1 c2 c3
   clear hx
   by_cases d:x1=t
   ·have e1:(x1==t)=true:=by rw [d];exact beq_self_eq_true _
    by_cases d4:x0=4
    ·have e4:(x0==4)=true:=by rw [d4];rfl
     have HR:Hid (endL h t m=some k):=(fi_some _ _ _).2 ⟨hlt,by show decide _=true;rw [HX.out];exact decide_eq_true (⟨d,Or.inl d4⟩),HA.out⟩
     go_wp2_with fail
     go_ret
     exact ⟨by rw [HR.out];rfl,hbw⟩
    ·have e4:(x0==4)=false:=beq_eq_false_iff_ne.2 d4
     by_cases d5:x0=5
     ·have e5:(x0==5)=true:=by rw [d5];rfl
      have HR:Hid (endL h t m=some k):=(fi_some _ _ _).2 ⟨hlt,by show decide _=true;rw [HX.out];exact decide_eq_true (⟨d,Or.inr d5⟩),HA.out⟩
      go_wp2_with fail
      go_ret
      exact ⟨by rw [HR.out];rfl,hbw⟩
     ·have e5:(x0==5)=false:=beq_eq_false_iff_ne.2 d5
      have HA':Hid (∀ j,j < k+1→isEnd h t j=false):=upto_next _ k HA.out (by show decide _=false;rw [HX.out];exact decide_eq_false (fun hh=>hh.2.elim d4 d5))
      go_wp2_with fail
      refine ⟨?relrend_any1,?mearend_any1⟩
      case relrend_any1=>exact ⟨k+1,by omega,by first | go_num | simp,HA',hbw⟩
      case mearend_any1=>simp [intOf];omega
   ·have e1:(x1==t)=false:=beq_eq_false_iff_ne.2 d
    have HA':Hid (∀ j,j < k+1→isEnd h t j=false):=upto_next _ k HA.out (by show decide _=false;rw [HX.out];exact decide_eq_false (fun hh=>d hh.1))
    go_wp2_with fail
    refine ⟨?relrend_any2,?mearend_any2⟩
    case relrend_any2=>exact ⟨k+1,by omega,by first | go_num | simp,HA',hbw⟩
    case mearend_any2=>simp [intOf];omega
  ·have HR:Hid (endL h t m=none):=(fi_none _ _).2 (by
    obtain rfl:k=m:=by omega
    exact HA.out)
   go_wp2_with fail
   go_ret
   exact ⟨by rw [HR.out];rfl,hbw⟩
set_option maxHeartbeats 2000000 in
theorem rwriter_any (h:List Ev) (v:Value) (w:World) (hT:IsEvs w v h) (key val:List UInt8) :
 Calls Tryz.prog 43 #[v,.string ⟨key.toArray⟩,.string ⟨val.toArray⟩] w fun e w'=>e=.returned (.int .i64 (oI (writerL h key val)))∧Below w.heap.size w w':=by
 obtain ⟨a,cap,rfl,h1,h2,h3,HC⟩:=hT.reads
 obtain ⟨n,hn⟩:∃ n,h.length=n:=⟨_,rfl⟩
 have HN:Hid (h.length=n):=hn
 have HW:Hid (writerL h key val=fi (isWr h key val) n):=by show _=_;unfold writerL;rw [hn]
 rw [HW.out]
 rw [hn] at h1 h3 ⊢
 clear hT hn
 go_enter Tryz.func43,Tryz.ntmps43
 go_wp2_with fail
 go_loopw [7] (fun i wr=>∃ k:Nat,k≤n∧i=.int .i64 k∧Hid (∀ j,j < k→isWr h key val j=false)∧Below w.heap.size w wr) (fun i _=>n - (intOf i).toNat)
 case atStart=>exact ⟨0,Nat.zero_le _,rfl,(fun j hj=>by omega),Below.refl _ _⟩
 case round =>
  obtain ⟨k,hk,rfl,HA,hbw⟩:=hrel
  by_cases hlt:k < n
  ·have hk1:k < h.length:=by have:=HN.out;omega
   have hkn:k < n:=by omega
   obtain ⟨bb,off,rfl,HQ⟩:=HC.out (by omega)
   obtain ⟨c0,c1,c2,c3⟩:=HQ.out k hk1 _ hbw
   obtain ⟨⟨x0,x1,x2,x3⟩,hx⟩:∃ x,ev h k=x:=⟨_,rfl⟩
   have HX:Hid (ev h k=(x0,x1,x2,x3)):=hx
   rw [hx] at c0 c1 c2 c3
   simp only at c0 c1 c2 c3
   clear hx
   by_cases d:x0=3
   ·have e1:(x0==3)=true:=by rw [d];rfl
    by_cases d4:x2=key
    ·have e4:(x2==key)=true:=by rw [d4];exact beq_self_eq_true _
     by_cases d5:x3=val
     ·have e5:(x3==val)=true:=by rw [d5];exact beq_self_eq_true _
      have HR:Hid (fi (isWr h key val) n=some k):=(fi_some _ _ _).2 ⟨hlt,by show decide _=true;rw [HX.out];exact decide_eq_true (⟨d,d4,d5⟩),HA.out⟩
      go_wp2_with fail
      go_ret
      exact ⟨by rw [HR.out];rfl,hbw⟩
     ·have e5:(x3==val)=false:=beq_eq_false_iff_ne.2 d5
      have HA':Hid (∀ j,j < k+1→isWr h key val j=false):=upto_next _ k HA.out (by show decide _=false;rw [HX.out];exact decide_eq_false (fun hh=>d5 hh.2.2))
      go_wp2_with fail
      refine ⟨?relrwriter_any1,?mearwriter_any1⟩
      case relrwriter_any1=>exact ⟨k+1,by omega,by first | go_num | simp,HA',hbw⟩
      case mearwriter_any1=>simp [intOf];omega
    ·have e4:(x2==key)=false:=beq_eq_false_iff_ne.2 d4
     have HA':Hid (∀ j,j < k+1→isWr h key val j=false):=upto_next _ k HA.out (by show decide _=false;rw [HX.out];exact decide_eq_false (fun hh=>d4 hh.2.1))
     go_wp2_with fail
     refine ⟨?relrwriter_any2,?mearwriter_any2⟩
     case relrwriter_any2=>exact ⟨k+1,by omega,by first | go_num | simp,HA',hbw⟩
     case mearwriter_any2=>simp [intOf];omega
   ·have e1:(x0==3)=false:=beq_eq_false_iff_ne.2 d
    have HA':Hid (∀ j,j < k+1→isWr h key val j=false):=upto_next _ k HA.out (by show decide _=false;rw [HX.out];exact decide_eq_false (fun hh=>d hh.1))
    go_wp2_with fail
    refine ⟨?relrwriter_any3,?mearwriter_any3⟩
    case relrwriter_any3=>exact ⟨k+1,by omega,by first | go_num | simp,HA',hbw⟩
    case mearwriter_any3=>simp [intOf];omega
  ·have HR:Hid (fi (isWr h key val) n=none):=(fi_none _ _).2 (by
    obtain rfl:k=n:=by omega
    exact HA.out)
   go_wp2_with fail
   go_ret
   exact ⟨by rw [HR.out];rfl,hbw⟩
set_option maxHeartbeats 1000000 in
theorem rcomm_any (h:List Ev) (v:Value) (w:World) (hT:IsEvs w v h) (t:Int) :
 Calls Tryz.prog 47 #[v,.int .i64 t] w fun e w'=>e=.returned (.int .i64 (oI (commL h t)))∧Below w.heap.size w w':=by
 have D:=rend_any h v w hT t h.length (Nat.le_refl _)
 obtain ⟨a,cap,rfl,h1,h2,h3,HC⟩:=hT.reads
 obtain ⟨n,hn⟩:∃ n,h.length=n:=⟨_,rfl⟩
 have HN:Hid (h.length=n):=hn
 rcases he:endL h t h.length with _ | e
 ·rw [comm_none h t he]
  rw [he] at D
  simp only [oI] at D ⊢
  rw [hn] at D h1 h3 ⊢
  clear hT hn he
  go_enter Tryz.func47,Tryz.ntmps47
  go_wp2_with fail
  refine D.mono ?_
  rintro e w1 ⟨rfl,b1⟩
  go_wp2_with fail
  go_ret
  exact ⟨rfl,b1⟩
 ·have hel:e < h.length:=((fi_some _ _ _).1 he).1
  have HE:Hid (e < h.length):=hel
  obtain ⟨bb,off,rfl,HQ⟩:=HC.out (by omega)
  have j1:¬ (e:Int) < 0:=by omega
  rw [he] at D
  simp only [oI] at D
  by_cases h4:(ev h e).1=4
  ·rw [comm_yes h t e he h4]
   have HX:Hid ((ev h e).1=4):=h4
   simp only [oI]
   rw [hn] at D h1 h3 hel ⊢
   clear hT hn he h4 HC
   go_enter Tryz.func47,Tryz.ntmps47
   go_wp2_with fail
   refine D.mono ?_
   rintro e' w1 ⟨rfl,b1⟩
   obtain ⟨c0,_,_,_⟩:=HQ.out e HE.out _ b1
   rw [HX.out] at c0
   go_wp2_with fail
   go_ret
   exact ⟨rfl,b1⟩
  ·rw [comm_no h t e he h4]
   obtain ⟨x0,hx⟩:∃ x0,(ev h e).1=x0:=⟨_,rfl⟩
   have HX:Hid ((ev h e).1=x0):=hx
   have e4:(x0 != 4)=true:=by rw [← hx];simpa using h4
   simp only [oI]
   rw [hn] at D h1 h3 hel ⊢
   clear hT hn he h4 HC hx
   go_enter Tryz.func47,Tryz.ntmps47
   go_wp2_with fail
   refine D.mono ?_
   rintro e' w1 ⟨rfl,b1⟩
   obtain ⟨c0,_,_,_⟩:=HQ.out e HE.out _ b1
   rw [HX.out] at c0
   go_wp2_with fail
   go_ret
   exact ⟨rfl,b1⟩
def FdI (h:List Ev) (t:Int) (k:Nat) (L:Lf) (th:Bool):Prop :=
 endL h t k=none∧((fstL h t k=none∧th=false∧L=(0,0,0,false))∨∃ f,fstL h t k=some f∧th=true∧L=(t,f,h.length,false))
theorem fd_zero (h:List Ev) (t:Int):FdI h t 0 (0,0,0,false) false:=⟨rfl,Or.inl ⟨rfl,rfl,rfl⟩⟩
theorem endL_skip (h:List Ev) (t:Int) (k:Nat) (he:endL h t k=none) (hn:¬ endB (ev h k) t):endL h t (k+1)=none:=by
 rw [endL_none] at he ⊢
 intro j hj
 rcases Nat.lt_or_ge j k with h' | h'
 ·exact he j h'
 ·obtain rfl:j=k:=by omega
  exact hn
theorem fstL_old (h:List Ev) (t:Int) (k f:Nat) (he:fstL h t k=some f):fstL h t (k+1)=some f:=by
 rw [fstL_some] at he ⊢
 exact ⟨by omega,he.2⟩
theorem fstL_new (h:List Ev) (t:Int) (k:Nat) (he:fstL h t k=none) (hx:(ev h k).2.1=t):fstL h t (k+1)=some k:=by
 rw [fstL_none] at he
 rw [fstL_some]
 exact ⟨by omega,hx,he⟩
theorem fstL_skip (h:List Ev) (t:Int) (k:Nat) (he:fstL h t k=none) (hx:(ev h k).2.1≠t):fstL h t (k+1)=none:=by
 rw [fstL_none] at he ⊢
 intro j hj
 rcases Nat.lt_or_ge j k with h' | h'
 ·exact he j h'
 ·obtain rfl:j=k:=by omega
  exact hx
theorem fstL_mono (h:List Ev) (t:Int) (k n f:Nat) (hk:k≤n) (he:fstL h t k=some f):fstL h t n=some f:=by
 rw [fstL_some] at he ⊢
 exact ⟨by omega,he.2⟩
theorem fd_skip {h:List Ev} {t:Int} {k:Nat} {L:Lf} {th:Bool} (hf:FdI h t k L th) (hx:(ev h k).2.1≠t):FdI h t (k+1) L th:=by
 obtain ⟨h1,h2⟩:=hf
 refine ⟨endL_skip h t k h1 (fun hh=>hx hh.1),?_⟩
 rcases h2 with ⟨a,b,c⟩ | ⟨f,a,b,c⟩
 ·exact Or.inl ⟨fstL_skip h t k a hx,b,c⟩
 ·exact Or.inr ⟨f,fstL_old h t k f a,b,c⟩
theorem fd_new {h:List Ev} {t:Int} {k:Nat} {L:Lf} (hf:FdI h t k L false) (hx:(ev h k).2.1=t) (hn:¬ ((ev h k).1=4∨(ev h k).1=5)):FdI h t (k+1) (t,k,h.length,false) true:=by
 obtain ⟨h1,h2⟩:=hf
 refine ⟨endL_skip h t k h1 (fun hh=>hn hh.2),?_⟩
 rcases h2 with ⟨a,b,c⟩ | ⟨f,a,b,c⟩
 ·exact Or.inr ⟨k,fstL_new h t k a hx,rfl,rfl⟩
 ·cases b
theorem fd_old {h:List Ev} {t:Int} {k:Nat} {L:Lf} (hf:FdI h t k L true) (hn:¬ ((ev h k).1=4∨(ev h k).1=5)):FdI h t (k+1) L true:=by
 obtain ⟨h1,h2⟩:=hf
 refine ⟨endL_skip h t k h1 (fun hh=>hn hh.2),?_⟩
 rcases h2 with ⟨a,b,c⟩ | ⟨f,a,b,c⟩
 ·cases b
 ·exact Or.inr ⟨f,fstL_old h t k f a,rfl,c⟩
theorem fd_end {h:List Ev} {t:Int} {k:Nat} (he:endL h t k=none) (hk:k < h.length) (hx:(ev h k).2.1=t) (hn:(ev h k).1=4∨(ev h k).1=5) (f:Nat) (hf:fstL h t (k+1)=some f):findL h t=some (t,f,k,decide ((ev h k).1=4)):=by
 unfold findL
 rw [fstL_mono h t (k+1) h.length f (by omega) hf,(endL_some h t h.length k).2 ⟨hk,⟨hx,hn⟩,(endL_none h t k).1 he⟩]
theorem fd_end_new {h:List Ev} {t:Int} {k:Nat} {L:Lf} (hf:FdI h t k L false) (hk:k < h.length) (hx:(ev h k).2.1=t) (hn:(ev h k).1=4∨(ev h k).1=5):findP h t=((t,k,k,decide ((ev h k).1=4)),true):=by
 obtain ⟨h1,h2⟩:=hf
 rcases h2 with ⟨a,b,c⟩ | ⟨f,a,b,c⟩
 ·exact findP_of (fd_end h1 hk hx hn k (fstL_new h t k a hx))
 ·cases b
theorem fd_end_old {h:List Ev} {t:Int} {k:Nat} {L:Lf} (hf:FdI h t k L true) (hk:k < h.length) (hx:(ev h k).2.1=t) (hn:(ev h k).1=4∨(ev h k).1=5):findP h t=((L.1,L.2.1,k,decide ((ev h k).1=4)),true):=by
 obtain ⟨h1,h2⟩:=hf
 rcases h2 with ⟨a,b,c⟩ | ⟨f,a,b,c⟩
 ·cases b
 ·rw [c]
  exact findP_of (fd_end h1 hk hx hn f (fstL_old h t k f a))
theorem fd_done {h:List Ev} {t:Int} {L:Lf} {th:Bool} (hf:FdI h t h.length L th):findP h t=(L,th):=by
 obtain ⟨h1,h2⟩:=hf
 unfold findP findL
 rcases h2 with ⟨a,b,c⟩ | ⟨f,a,b,c⟩
 ·rw [a,b,c]
 ·rw [a,h1,b,c]
set_option maxHeartbeats 2000000 in
theorem rlast_any (h:List Ev) (v:Value) (w:World) (hT:IsEvs w v h) (t:Int) (key:List UInt8) (before:Int) :
 Calls Tryz.prog 54 #[v,.int .i64 t,.string ⟨key.toArray⟩,.int .i64 before] w fun e w'=>e=.returned (.int .i64 (oI (lastL h t key before)))∧Below w.heap.size w w':=by
 obtain ⟨a,cap,rfl,h1,h2,h3,HC⟩:=hT.reads
 obtain ⟨n,hn⟩:∃ n,h.length=n:=⟨_,rfl⟩
 have HN:Hid (h.length=n):=hn
 rw [hn] at h1 h3 ⊢
 clear hT hn
 go_enter Tryz.func54,Tryz.ntmps54
 go_wp2_with fail
 go_loopw [9,10] (fun o i wr=>∃ k:Nat,k≤n∧(k=0∨(k:Int)≤before)∧o=.int .i64 (oI (lastN h t key k))∧i=.int .i64 k∧Below w.heap.size w wr) (fun _ i _=>n - (intOf i).toNat)
 case atStart=>exact ⟨0,Nat.zero_le _,Or.inl rfl,rfl,rfl,Below.refl _ _⟩
 case round =>
  obtain ⟨k,hk,hkb,rfl,rfl,hbw⟩:=hrel
  by_cases hlt:k < n
  ·by_cases hlb:(k:Int) < before
   ·have hk1:k < h.length:=by have:=HN.out;omega
    obtain ⟨bb,off,rfl,HQ⟩:=HC.out (by omega)
    obtain ⟨c0,c1,c2,c3⟩:=HQ.out k hk1 _ hbw
    obtain ⟨⟨x0,x1,x2,x3⟩,hx⟩:∃ x,ev h k=x:=⟨_,rfl⟩
    have HX:Hid (ev h k=(x0,x1,x2,x3)):=hx
    rw [hx] at c0 c1 c2 c3
    simp only at c0 c1 c2 c3
    clear hx
    by_cases d:x0=3
    ·have e1:(x0==3)=true:=by rw [d];rfl
     by_cases d4:x1=t
     ·have e4:(x1==t)=true:=by rw [d4];exact beq_self_eq_true _
      by_cases d5:x2=key
      ·have e5:(x2==key)=true:=by rw [d5];exact beq_self_eq_true _
       have HS:Hid (lastN h t key (k+1)=some k):=by
        show la (isWrT h t key) (k+1)=_
        rw [la,show isWrT h t key k=true by show decide _=true;rw [HX.out];exact decide_eq_true (⟨d,d4,d5⟩)];rfl
       go_wp2_with fail
       refine ⟨?relA,?meaA⟩
       case relA=>exact ⟨k+1,by omega,by omega,by rw [HS.out]<;>rfl,by first | go_num | simp,hbw⟩
       case meaA=>simp [intOf];omega
      ·have e5:(x2==key)=false:=beq_eq_false_iff_ne.2 d5
       have HS:Hid (lastN h t key (k+1)=lastN h t key k):=by
        show la (isWrT h t key) (k+1)=_
        rw [la,show isWrT h t key k=false by show decide _=false;rw [HX.out];exact decide_eq_false (fun hh=>d5 hh.2.2)];rfl
       go_wp2_with fail
       refine ⟨?relB,?meaB⟩
       case relB=>exact ⟨k+1,by omega,by omega,by rw [HS.out]<;>rfl,by first | go_num | simp,hbw⟩
       case meaB=>simp [intOf];omega
     ·have e4:(x1==t)=false:=beq_eq_false_iff_ne.2 d4
      have HS:Hid (lastN h t key (k+1)=lastN h t key k):=by
       show la (isWrT h t key) (k+1)=_
       rw [la,show isWrT h t key k=false by show decide _=false;rw [HX.out];exact decide_eq_false (fun hh=>d4 hh.2.1)];rfl
      go_wp2_with fail
      refine ⟨?relC,?meaC⟩
      case relC=>exact ⟨k+1,by omega,by omega,by rw [HS.out]<;>rfl,by first | go_num | simp,hbw⟩
      case meaC=>simp [intOf];omega
    ·have e1:(x0==3)=false:=beq_eq_false_iff_ne.2 d
     have HS:Hid (lastN h t key (k+1)=lastN h t key k):=by
      show la (isWrT h t key) (k+1)=_
      rw [la,show isWrT h t key k=false by show decide _=false;rw [HX.out];exact decide_eq_false (fun hh=>d hh.1)];rfl
     go_wp2_with fail
     refine ⟨?relD,?meaD⟩
     case relD=>exact ⟨k+1,by omega,by omega,by rw [HS.out]<;>rfl,by first | go_num | simp,hbw⟩
     case meaD=>simp [intOf];omega
   ·have HR:Hid (lastL h t key before=lastN h t key k):=last_end h t key before k (by have:=HN.out;omega) hkb (Or.inr (by omega))
    go_wp2_with fail
    go_ret
    exact ⟨by rw [HR.out];rfl,hbw⟩
  ·have HR:Hid (lastL h t key before=lastN h t key k):=last_end h t key before k (by have:=HN.out;omega) hkb (Or.inl (by have:=HN.out;omega))
   go_wp2_with fail
   go_ret
   exact ⟨by rw [HR.out];rfl,hbw⟩
set_option maxHeartbeats 2000000 in
theorem rcounts_any (h:List Ev) (v:Value) (w:World) (hT:IsEvs w v h) (i:Int) :
 Calls Tryz.prog 53 #[v,.int .i64 i] w fun e w'=>e=.returned (.bool (countI h i))∧Below w.heap.size w w':=by
 have C1:=fun (t:Int) W hW=>rend_any h v W (hT.below (w':=W) hW) t h.length (Nat.le_refl _)
 obtain ⟨a,cap,rfl,h1,h2,h3,HC⟩:=hT.reads
 obtain ⟨n,hn⟩:∃ n,h.length=n:=⟨_,rfl⟩
 have HN:Hid (h.length=n):=hn
 simp only [hn] at C1
 rw [hn] at h1 h3 ⊢
 clear hT hn
 by_cases i0:i < 0
 ·rw [show countI h i=false by unfold countI;rw [decide_eq_false (by omega)];rfl]
  go_enter Tryz.func53,Tryz.ntmps53
  go_wp2_with fail
  go_ret
  exact ⟨rfl,Below.refl _ _⟩
 ·obtain ⟨q,rfl⟩:∃ q:Nat,i=(q:Int):=⟨i.toNat,by omega⟩
  have HQQ:Hid (countI h (q:Int)=countsB h q):=by show _=_;unfold countI;rw [decide_eq_true (by omega)];simp
  by_cases i1:q < n
  ·have hq1:q < h.length:=by have:=HN.out;omega
   have j1:¬ (n:Int)≤(q:Int):=by omega
   have j11:¬ n≤q:=by omega
   obtain ⟨bb,off,rfl,HQ⟩:=HC.out (by omega)
   obtain ⟨c0,c1,_,_⟩:=HQ.out q hq1 _ (Below.refl _ _)
   obtain ⟨⟨x0,x1,x2,x3⟩,hx⟩:∃ x,ev h q=x:=⟨_,rfl⟩
   have HX:Hid (ev h q=(x0,x1,x2,x3)):=hx
   rw [hx] at c0 c1
   simp only at c0 c1
   clear hx
   by_cases d:x0=2
   ·have e2:(x0 != 2)=false:=by rw [d];rfl
    have D:=C1 x1
    rcases he:endL h x1 n with _ | e
    ·rw [HQQ.out,count_open h q (by rw [HX.out,HN.out];exact he)]
     rw [he] at D
     simp only [oI] at D
     have j2:¬ (q:Int) < -1:=by omega
     clear he d
     go_enter Tryz.func53,Tryz.ntmps53
     go_wp2_with fail
     refine (D _ (Below.refl _ _)).mono ?_
     rintro e w1 ⟨rfl,b1⟩
     go_wp2_with fail
     go_ret
     exact ⟨rfl,b1⟩
    ·have hel:e < h.length:=by have:=((fi_some _ _ _).1 he).1;have:=HN.out;omega
     have HCE:Hid (countsB h q=(decide (q < e)&&decide ((ev h e).1=4))):=count_end h q e hq1 (by rw [HX.out];exact d) (by rw [HX.out,HN.out];exact he)
     rw [HQQ.out,HCE.out]
     rw [he] at D
     simp only [oI] at D
     have HE:Hid (e < h.length):=hel
     have hen:e < n:=by have:=HN.out;omega
     clear he d hel
     by_cases l1:q < e
     ·have l2:(q:Int) < (e:Int):=by omega
      rw [decide_eq_true l1]
      obtain ⟨z0,hz⟩:∃ z,(ev h e).1=z:=⟨_,rfl⟩
      have HZ:Hid ((ev h e).1=z0):=hz
      rw [hz]
      clear hz
      by_cases l3:z0=4
      ·have l4:(z0==4)=true:=by rw [l3];rfl
       rw [decide_eq_true l3]
       clear l3
       go_enter Tryz.func53,Tryz.ntmps53
       go_wp2_with fail
       refine (D _ (Below.refl _ _)).mono ?_
       rintro e' w1 ⟨rfl,b1⟩
       have m0:=(HQ.out e HE.out _ b1).1
       rw [HZ.out] at m0
       go_wp2_with fail
       go_ret
       exact ⟨rfl,b1⟩
      ·have l4:(z0==4)=false:=beq_eq_false_iff_ne.2 l3
       rw [decide_eq_false l3]
       go_enter Tryz.func53,Tryz.ntmps53
       go_wp2_with fail
       refine (D _ (Below.refl _ _)).mono ?_
       rintro e' w1 ⟨rfl,b1⟩
       have m0:=(HQ.out e HE.out _ b1).1
       rw [HZ.out] at m0
       go_wp2_with fail
       go_ret
       exact ⟨rfl,b1⟩
     ·have l2:¬ (q:Int) < (e:Int):=by omega
      rw [decide_eq_false l1,Bool.false_and]
      go_enter Tryz.func53,Tryz.ntmps53
      go_wp2_with fail
      refine (D _ (Below.refl _ _)).mono ?_
      rintro e' w1 ⟨rfl,b1⟩
      go_wp2_with fail
      go_ret
      exact ⟨rfl,b1⟩
   ·have e2:(x0 != 2)=true:=bne_iff_ne.2 d
    rw [HQQ.out,count_kind h q (by rw [HX.out];exact d)]
    go_enter Tryz.func53,Tryz.ntmps53
    go_wp2_with fail
    go_ret
    exact ⟨rfl,Below.refl _ _⟩
  ·have j1:(n:Int)≤(q:Int):=by omega
   have j11:n≤q:=by omega
   rw [HQQ.out,count_out h q (by have:=HN.out;omega)]
   go_enter Tryz.func53,Tryz.ntmps53
   go_wp2_with fail
   go_ret
   exact ⟨rfl,Below.refl _ _⟩
def fiF (p:Nat→Bool) (m n:Nat):Option Nat:=((List.range n).drop m).find? p
theorem fiF_end (p:Nat→Bool) (n:Nat):fiF p n n=none:=by
 unfold fiF
 rw [List.drop_of_length_le (by rw [List.length_range];exact Nat.le_refl _)]
 rfl
theorem fiF_step (p:Nat→Bool) (m n:Nat) (hm:m < n):fiF p m n=if p m=true then some m else fiF p (m+1) n:=by
 unfold fiF
 rw [List.drop_eq_getElem_cons (by rw [List.length_range];exact hm),List.getElem_range]
 by_cases h:p m=true
 ·rw [if_pos h,List.find?_cons_of_pos h]
 ·rw [if_neg h,List.find?_cons_of_neg h]
theorem fiF_zero (p:Nat→Bool) (n:Nat):fiF p 0 n=fi p n:=rfl
def isVer (h:List Ev) (v:List Nat) (i n:Nat):Bool:=decide ((ev h (vAt v n)).2.2.2=(ev h i).2.2.2)
theorem verAt_is (h:List Ev) (v:List Nat) (i:Nat):verAt h v i=fi (isVer h v i) v.length:=rfl
def wTo (h:List Ev) (v:List Nat) (n:Nat):List Ed:=(List.range n).filterMap (wEdge h v)
theorem wTo_next (h:List Ev) (v:List Nat) (n:Nat):wTo h v (n+1)=wTo h v n++(wEdge h v n).toList:=by
 unfold wTo
 rw [List.range_succ,List.filterMap_append]
 cases hl:wEdge h v n with
 | none=>simp [hl]
 | some x=>simp [hl]
theorem wTo_len (h:List Ev) (v:List Nat) (n:Nat):(wTo h v n).length≤n:=by
 unfold wTo
 have:=List.length_filterMap_le (wEdge h v) (List.range n)
 rwa [List.length_range] at this
def rOf (h:List Ev) (key:List UInt8) (v:List Nat) (i:Nat):List Ed:=if readOf h key i=true then rdEdges h v i else []
def rTo (h:List Ev) (key:List UInt8) (v:List Nat) (i:Nat):List Ed:=(List.range i).flatMap (rOf h key v)
theorem rTo_next (h:List Ev) (key:List UInt8) (v:List Nat) (i:Nat):rTo h key v (i+1)=rTo h key v i++rOf h key v i:=by
 unfold rTo
 rw [List.range_succ,List.flatMap_append]
 simp
theorem rEdge_len (h:List Ev) (v:List Nat) (i n:Nat):(rEdge h v i n).length≤1:=by
 unfold rEdge
 by_cases hh:tx h (vAt v n)=tx h i
 ·rw [if_pos hh];simp
 ·rw [if_neg hh];simp
theorem oEdge_len (h:List Ev) (v:List Nat) (i n:Nat):(oEdge h v i n).length≤1:=by
 unfold oEdge
 by_cases hh:n < v.length∧tx h (vAt v n)≠tx h i
 ·rw [if_pos hh];simp
 ·rw [if_neg hh];simp
theorem rOf_len (h:List Ev) (key:List UInt8) (v:List Nat) (i:Nat):(rOf h key v i).length≤2:=by
 unfold rOf
 by_cases hh:readOf h key i=true
 ·rw [if_pos hh]
  unfold rdEdges
  cases verAt h v i with
  | none =>
    simp only
    by_cases hv:(ev h i).2.2.2=[]
    ·rw [if_pos hv];have:=oEdge_len h v i 0;omega
    ·rw [if_neg hv];simp
  | some n =>
    simp only
    rw [List.length_append]
    have:=rEdge_len h v i n
    have:=oEdge_len h v i (n+1)
    omega
 ·rw [if_neg hh];simp
theorem rTo_len (h:List Ev) (key:List UInt8) (v:List Nat):∀ i,(rTo h key v i).length≤2*i
 | 0=>by unfold rTo;simp
 | i+1=>by
   rw [rTo_next,List.length_append]
   have:=rTo_len h key v i
   have:=rOf_len h key v i
   omega
def eTo (h:List Ev) (k:Nat):List Ed:=((keysL h).take k).flatMap (keyEdges h)
theorem eTo_next (h:List Ev) (k:Nat) (hk:k < (keysL h).length):eTo h (k+1)=eTo h k++keyEdges h (keysL h)[k]:=by
 unfold eTo
 rw [List.take_succ_eq_append_getElem hk,List.flatMap_append]
 simp
theorem eTo_all (h:List Ev):eTo h (keysL h).length=edgesL h:=by
 unfold eTo edgesL
 rw [List.take_of_length_le (Nat.le_refl _)]
theorem keyEdges_is (h:List Ev) (key:List UInt8):keyEdges h key=wTo h (versL h key) ((versL h key).length - 1)++rTo h key (versL h key) h.length:=rfl
theorem eTo_len (h:List Ev) (n:Nat) (hn:h.length≤n):∀ k,k≤(keysL h).length→(eTo h k).length≤k*(3*n)
 | 0,_=>by unfold eTo;simp
 | k+1,hk=>by
   rw [eTo_next h k (by omega),List.length_append,keyEdges_is,List.length_append]
   have h1:=eTo_len h n hn k (by omega)
   have h2:=wTo_len h (versL h (keysL h)[k]) ((versL h (keysL h)[k]).length - 1)
   have h3:=rTo_len h (keysL h)[k] (versL h (keysL h)[k]) h.length
   have h4:=vers_len h (keysL h)[k]
   rw [Nat.succ_mul]
   omega
theorem vers_lt (h:List Ev) (key:List UInt8) (y:Nat) (hy:y∈versL h key):y < h.length:=by
 unfold versL at hy
 obtain ⟨i,hi,hv⟩:=List.mem_filterMap.1 hy
 have:=List.mem_range.1 hi
 have:=(verOf_some hv).2.2.1
 omega
theorem own_empty8 (w:World) (e k:Nat):(w.alloc (.cells #[] e)).ownsRow w.heap.size e k (.slice (some ⟨w.heap.size,0,none⟩) 0 0) 0 [] :=
 ⟨by simp,.inr ⟨w.heap.size,0,#[],rfl,Nat.le_refl _,SBox.new w e #[],Nat.le_refl _,by unfold maxLen;omega,by simp,by simp⟩⟩
theorem rec_src8 {α:Type} {sz:Nat} {enc:α→List Value} (hz:∀ x,(enc x).length=sz) (hs:0 < sz) {W:World} {b off:Nat} {L:List α} (h:∀ i (h:i < L.length) j u,(enc L[i])[j]?=some u→W.cell? ⟨b,off+i*sz+j,none⟩=some u):∀ j u,(recV enc L)[j]?=some u→W.cell? ((⟨b,off,none⟩:Addr).add j)=some u:=by
 intro j u hu
 have hj:j < L.length*sz:=by
  have:=(List.getElem?_eq_some_iff.1 hu).1
  rwa [recV_length hz] at this
 have hi:j / sz < L.length:=(Nat.div_lt_iff_lt_mul hs).2 hj
 have hm:j % sz < sz:=Nat.mod_lt _ hs
 have e:j / sz*sz+j % sz=j:=by rw [Nat.mul_comm];exact Nat.div_add_mod j sz
 have g:=recV_get hz L (j / sz) hi (j % sz) hm
 rw [e,hu] at g
 have:=h (j / sz) hi (j % sz) u g.symm
 rw [Nat.add_assoc,e] at this
 have ea:(⟨b,off,none⟩:Addr).add j=⟨b,off+j,none⟩:=by simp [Addr.add]
 rw [ea]
 exact this
theorem IsRec.src {α:Type} {sz:Nat} {enc:α→List Value} (hz:∀ x,(enc x).length=sz) (hs:0 < sz) {w W:World} {ad:Addr} {n c:Nat} {L:List α} (h:IsRec sz enc w (.slice (some ad) n c) L) (hb:Below w.heap.size w W):∀ j u,(recV enc L)[j]?=some u→W.cell? (ad.add j)=some u:=by
 by_cases h0:L=[]
 ·subst h0;intro j u hu;simp [recV] at hu
 ·obtain ⟨a,n',c',hv,h1,_,_,_,h6⟩:=h
  obtain ⟨rfl,rfl,rfl⟩:a=some ad∧n'=n∧c'=c:=by simpa [eq_comm] using hv
  rcases h6 with h6 | ⟨b,off,hb',hlt,hc⟩
  ·exact absurd (List.length_eq_zero_iff.1 (by omega)) h0
  ·obtain rfl:ad=⟨b,off,none⟩:=by simpa using hb'
   refine rec_src8 hz hs (fun i hi j u hu=>?_)
   exact (hb.cell (p:=⟨b,off+i*sz+j,none⟩) hlt).trans (hc i hi j u hu)
theorem own_slice9 {W:World} {B e k n:Nat} {v:Value} {xs:List Value} (h:W.ownsRow B e k v n xs):∃ g c,v=.slice g n c∧n≤c:=by
 rcases h.2 with ⟨rfl,rfl⟩ | ⟨g,cap,cur,rfl,_,_,hc,_⟩
 ·exact ⟨_,_,rfl,Nat.le_refl _⟩
 ·exact ⟨_,_,rfl,hc⟩
theorem fin_prefix {n:Nat} {pre:List (Fin n)} {x:Fin n} (h:pre++[x] <+: List.finRange n):pre <+: List.finRange n∧x.val=pre.length∧pre.length < n:=by
 have hl:=h.length_le
 rw [List.length_append,List.length_finRange] at hl
 have h1:pre <+: List.finRange n:=(List.prefix_append _ _).trans h
 refine ⟨h1,?_,by simp at hl;omega⟩
 have h2:=List.IsPrefix.getElem h (i:=pre.length) (by simp)
 rw [List.getElem_append_right (Nat.le_refl _)] at h2
 simp at h2
 rw [h2]
theorem fin_take {n k:Nat} (hk:k < n):(List.finRange n).take (k+1)=(List.finRange n).take k++[⟨k,hk⟩]:=by
 rw [List.take_succ_eq_append_getElem (by rw [List.length_finRange];exact hk),List.getElem_finRange]
 rfl
theorem lessB_lt:∀ a b:List UInt8,lessB a b=true↔a < b
 | [],[]=>by rw [lessB];simp
 | [],_::_=>by rw [lessB];simp
 | _::_,[]=>by rw [lessB];simp
 | a::l,b::m=>by
   rw [lessB,List.cons_lt_cons_iff]
   by_cases h:a < b
   ·rw [if_pos h];simp [h]
   ·rw [if_neg h]
    by_cases e:a=b
    ·rw [if_pos e,lessB_lt l m];simp [e]
    ·rw [if_neg e];simp [h,e]
theorem insK_sorted (k:List UInt8):∀ l:List (List UInt8),l.Pairwise (·< ·)→(insK k l).Pairwise (·< ·)
 | [],_=>by rw [insK];simp
 | x::l,hp=>by
   obtain ⟨h1,h2⟩:=List.pairwise_cons.1 hp
   rw [insK]
   by_cases hx:lessB x k=true
   ·rw [if_pos hx]
    refine List.pairwise_cons.2 ⟨fun y hy=>?_,insK_sorted k l h2⟩
    rcases (insK_mem k l y).1 hy with e | e
    ·rw [e];exact (lessB_lt x k).1 hx
    ·exact h1 y e
   ·rw [if_neg hx]
    by_cases e:x=k
    ·rw [if_pos e];exact hp
    ·rw [if_neg e]
     have hlt:k < x:=by
      have h3:k≤x:=List.not_lt.1 (fun hh=>hx ((lessB_lt x k).2 hh))
      rcases Classical.em (k < x) with h4 | h4
      ·exact h4
      ·exact absurd (List.le_antisymm h3 (List.not_lt.1 h4)).symm e
     refine List.pairwise_cons.2 ⟨fun y hy=>?_,hp⟩
     rcases List.mem_cons.1 hy with e' | e'
     ·rw [e'];exact hlt
     ·exact List.lt_trans hlt (h1 y e')
theorem keysF_sorted:∀ (l:List Ev) (acc:List (List UInt8)),acc.Pairwise (·< ·)→(keysF acc l).Pairwise (·< ·)
 | [],acc,h=>by rw [keysF];exact h
 | x::l,acc,h=>by
   rw [keysF]
   by_cases hk:keyedE x.1
   ·rw [if_pos hk];exact keysF_sorted l _ (insK_sorted _ _ h)
   ·rw [if_neg hk];exact keysF_sorted l _ h
theorem keysL_sorted (h:List Ev):(keysL h).Pairwise (·< ·):=keysF_sorted h [] List.Pairwise.nil
def kyS (K:List (List UInt8)) (y:Ev):List (List UInt8):=if y.1=2∨y.1=3 then (if y.2.2.1∈K then K else K++[y.2.2.1]) else K
def kyF (h:List Ev) (pre:List (Fin h.length)):List (List UInt8):=pre.foldl (fun K x=>kyS K h[x.val]) []
theorem kyF_snoc (h:List Ev) (pre:List (Fin h.length)) (x:Fin h.length):kyF h (pre++[x])=kyS (kyF h pre) h[x.val]:=by
 unfold kyF
 rw [List.foldl_append]
 rfl
theorem kyS_nodup (K:List (List UInt8)) (y:Ev) (hK:K.Nodup):(kyS K y).Nodup:=by
 unfold kyS
 by_cases h1:y.1=2∨y.1=3
 ·rw [if_pos h1]
  by_cases h2:y.2.2.1∈K
  ·rw [if_pos h2];exact hK
  ·rw [if_neg h2,List.nodup_append]
   refine ⟨hK,by simp,fun a ha b hb e=>?_⟩
   simp at hb
   rw [e,hb] at ha
   exact h2 ha
 ·rw [if_neg h1];exact hK
theorem kyS_mem (K:List (List UInt8)) (y:Ev) (k:List UInt8):k∈kyS K y↔k∈K∨((y.1=2∨y.1=3)∧y.2.2.1=k):=by
 unfold kyS
 by_cases h1:y.1=2∨y.1=3
 ·rw [if_pos h1]
  by_cases h2:y.2.2.1∈K
  ·rw [if_pos h2]
   constructor
   ·exact Or.inl
   ·rintro (h | ⟨_,e⟩)
    ·exact h
    ·rw [← e];exact h2
  ·rw [if_neg h2,List.mem_append,List.mem_singleton]
   constructor
   ·rintro (h | e)
    ·exact Or.inl h
    ·exact Or.inr ⟨h1,e.symm⟩
   ·rintro (h | ⟨_,e⟩)
    ·exact Or.inl h
    ·exact Or.inr e.symm
 ·rw [if_neg h1]
  constructor
  ·exact Or.inl
  ·rintro (h | ⟨e,_⟩)
   ·exact h
   ·exact absurd e h1
theorem kyG_nodup (h:List Ev):∀ (pre:List (Fin h.length)) (K:List (List UInt8)),K.Nodup→(pre.foldl (fun K x=>kyS K h[x.val]) K).Nodup
 | [],K,hK=>hK
 | x::pre,K,hK=>by rw [List.foldl_cons];exact kyG_nodup h pre _ (kyS_nodup K _ hK)
theorem kyG_mem (h:List Ev) (k:List UInt8):∀ (pre:List (Fin h.length)) (K:List (List UInt8)),k∈pre.foldl (fun K x=>kyS K h[x.val]) K↔k∈K∨∃ x∈pre,(h[x.val].1=2∨h[x.val].1=3)∧h[x.val].2.2.1=k
 | [],K=>by simp
 | x::pre,K=>by
   rw [List.foldl_cons,kyG_mem h k pre,kyS_mem]
   simp only [List.mem_cons,exists_eq_or_imp,or_assoc]
theorem kyG_len (h:List Ev):∀ (pre:List (Fin h.length)) (K:List (List UInt8)),(pre.foldl (fun K x=>kyS K h[x.val]) K).length≤K.length+pre.length
 | [],K=>Nat.le_refl _
 | x::pre,K=>by
   have h1:=kyG_len h pre (kyS K h[x.val])
   have h2:(kyS K h[x.val]).length≤K.length+1:=by
    unfold kyS
    by_cases h1:h[x.val].1=2∨h[x.val].1=3
    ·rw [if_pos h1]
     by_cases h2:h[x.val].2.2.1∈K
     ·rw [if_pos h2];omega
     ·rw [if_neg h2];simp
    ·rw [if_neg h1];omega
   rw [List.foldl_cons,List.length_cons]
   omega
theorem kyF_len (h:List Ev) (pre:List (Fin h.length)):(kyF h pre).length≤pre.length:=by have:=kyG_len h pre [];simpa [kyF] using this
theorem ky_sorted (h:List Ev):((kyF h (List.finRange h.length)).mergeSort fun x y=>decide (x≤y))=keysL h:=by
 have nd:(keysL h).Nodup:=List.Pairwise.imp (fun {a b} hlt e=>by rw [e] at hlt;exact List.lt_irrefl b hlt) (keysL_sorted h)
 have pm:(kyF h (List.finRange h.length)).Perm (keysL h):=by
  refine (List.perm_ext_iff_of_nodup (kyG_nodup h _ [] List.nodup_nil) nd).2 fun k=>?_
  rw [kyG_mem,keys_mem]
  constructor
  ·rintro (hh | ⟨x,_,h1,h2⟩)
   ·cases hh
   ·exact ⟨x.val,x.isLt,by rw [ev_get h _ x.isLt];exact h1,by rw [ev_get h _ x.isLt];exact h2⟩
  ·rintro ⟨i,hi,h1,h2⟩
   rw [ev_get h _ hi] at h1 h2
   exact Or.inr ⟨⟨i,hi⟩,List.mem_finRange _,h1,h2⟩
 refine List.Perm.eq_of_pairwise (le:=fun x y:List UInt8=>x≤y) (fun a b _ _ h1 h2=>List.le_antisymm h1 h2) ?_ ?_ ((List.mergeSort_perm _ _).trans pm)
 ·refine (List.pairwise_mergeSort (le:=fun x y:List UInt8=>decide (x≤y)) (fun a b c h1 h2=>?_) (fun a b=>?_) (kyF h (List.finRange h.length))).imp (fun {a b} hh=>by simpa using hh)
  ·rw [decide_eq_true_eq] at h1 h2 ⊢
   exact List.le_trans h1 h2
  ·rw [Bool.or_eq_true,decide_eq_true_eq,decide_eq_true_eq]
   exact List.le_total a b
 ·exact (keysL_sorted h).imp (fun {a b} hh=>List.le_of_lt hh)
theorem sum_add {α:Type} (f g:α→Nat):∀ K:List α,(K.map fun x=>f x+g x).sum=(K.map f).sum+(K.map g).sum
 | []=>rfl
 | x::K=>by simp only [List.map_cons,List.sum_cons];rw [sum_add f g K];omega
theorem sum_le {α:Type} (f g:α→Nat):∀ K:List α,(∀ x∈K,f x≤g x)→(K.map f).sum≤(K.map g).sum
 | [],_=>Nat.le_refl _
 | x::K,h=>by
   simp only [List.map_cons,List.sum_cons]
   have h1:=h x (List.mem_cons_self ..)
   have h2:=sum_le f g K (fun y hy=>h y (List.mem_cons_of_mem _ hy))
   omega
theorem sum_zero {α:Type}:∀ K:List α,(K.map fun _=>0).sum=0
 | []=>rfl
 | _::K=>by simp [sum_zero K]
theorem sum_one {α:Type} [DecidableEq α] (y:α):∀ K:List α,K.Nodup→(K.map fun k=>if y=k then 1 else 0).sum≤1
 | [],_=>by simp
 | x::K,h=>by
   obtain ⟨h1,h2⟩:=List.nodup_cons.1 h
   simp only [List.map_cons,List.sum_cons]
   have ih:=sum_one y K h2
   by_cases e:y=x
   ·rw [if_pos e]
    have:(K.map fun k=>if y=k then 1 else 0).sum=0:=by
     have e3:(K.map fun k=>if y=k then 1 else 0)=K.map fun _=>0:=List.map_congr_left (fun k hk=>if_neg (fun e2=>h1 (by rw [← e,e2];exact hk)))
     rw [e3,sum_zero]
    omega
   ·rw [if_neg e];omega
def kCnt (h:List Ev) (n:Nat) (key:List UInt8):Nat:=(List.range n).countP fun i=>decide ((ev h i).2.2.1=key)
theorem kCnt_sum (h:List Ev) (K:List (List UInt8)) (hK:K.Nodup):∀ n,(K.map (kCnt h n)).sum≤n
 | 0=>by
   have:K.map (kCnt h 0)=K.map fun _=>0:=List.map_congr_left (fun k _=>rfl)
   rw [this,sum_zero]
   exact Nat.le_refl _
 | n+1=>by
   have e:K.map (kCnt h (n+1))=K.map fun k=>kCnt h n k+if (ev h n).2.2.1=k then 1 else 0:=List.map_congr_left (fun k _=>by
    unfold kCnt
    rw [List.range_succ,List.countP_append,List.countP_singleton]
    simp)
   rw [e,sum_add]
   have h1:=kCnt_sum h K hK n
   have h2:=sum_one (ev h n).2.2.1 K hK
   omega
theorem nodup_count (l:List Nat) (n:Nat) (p:Nat→Bool) (hl:l.Nodup) (h:∀ x∈l,x < n∧p x=true):l.length≤(List.range n).countP p:=by
 have pm:l.Perm ((List.range n).filter fun x=>decide (x∈l)):=by
  refine (List.perm_ext_iff_of_nodup hl (List.Pairwise.filter _ List.nodup_range)).2 fun x=>?_
  rw [List.mem_filter,List.mem_range,decide_eq_true_eq]
  exact ⟨fun hx=>⟨(h x hx).1,hx⟩,fun hx=>hx.2⟩
 rw [pm.length_eq,← List.countP_eq_length_filter]
 exact List.countP_mono_left (fun x _ hx=>(h x (by simpa using hx)).2)
theorem vers_nodup (h:List Ev) (key:List UInt8):(versL h key).Nodup:=by
 unfold versL
 refine List.Pairwise.filterMap (R:=fun a b:Nat=>a < b) _ ?_ List.pairwise_lt_range
 intro a b hab x hx y hy exy
 have h1:=verOf_some hx
 have h2:=verOf_some hy
 subst exy
 have e:(ev h a).2.1=(ev h b).2.1:=h1.2.2.2.2.1.symm.trans h2.2.2.2.2.1
 have e1:=h1.2.1
 rw [e,h2.2.1] at e1
 have:=Option.some.inj e1
 omega
def c3 (h:List Ev) (key:List UInt8) (i:Nat):Bool:=decide ((ev h i).1=3)&&decide ((ev h i).2.2.1=key)
def c2 (h:List Ev) (key:List UInt8) (i:Nat):Bool:=decide ((ev h i).1=2)&&decide ((ev h i).2.2.1=key)
theorem rTo_cnt (h:List Ev) (key:List UInt8) (v:List Nat):∀ i,(rTo h key v i).length≤2*(List.range i).countP (c2 h key)
 | 0=>by unfold rTo;simp
 | i+1=>by
   rw [rTo_next,List.length_append,List.range_succ,List.countP_append,List.countP_singleton]
   have h1:=rTo_cnt h key v i
   have h2:=rOf_len h key v i
   by_cases hr:readOf h key i=true
   ·have hc:c2 h key i=true:=by
     unfold readOf at hr
     rw [Bool.and_eq_true,decide_eq_true_eq] at hr
     unfold outerB at hr
     rw [Bool.and_eq_true] at hr
     have:=(counts_iff h i).1 hr.2.1
     unfold c2
     rw [Bool.and_eq_true,decide_eq_true_eq,decide_eq_true_eq]
     exact ⟨this.2.1,hr.1⟩
    rw [hc]
    simp
    omega
   ·have:rOf h key v i=[]:=by unfold rOf;rw [if_neg hr]
    rw [this]
    simp
    omega
theorem c_sum (h:List Ev) (key:List UInt8):∀ n,(List.range n).countP (c3 h key)+2*(List.range n).countP (c2 h key)≤2*kCnt h n key
 | 0=>by simp [kCnt]
 | n+1=>by
   have ih:=c_sum h key n
   unfold kCnt at ih ⊢
   rw [List.range_succ,List.countP_append,List.countP_append,List.countP_append,List.countP_singleton,List.countP_singleton,List.countP_singleton]
   by_cases hk:(ev h n).2.2.1=key
   ·by_cases h3:(ev h n).1=3
    ·simp [c3,c2,hk,h3]
     omega
    ·by_cases h2:(ev h n).1=2
     ·simp [c3,c2,hk,h2]
      omega
     ·simp [c3,c2,hk,h3,h2]
      omega
   ·simp [c3,c2,hk]
    omega
theorem key_cnt (h:List Ev) (key:List UInt8):(keyEdges h key).length≤2*kCnt h h.length key:=by
 rw [keyEdges_is,List.length_append]
 have h1:=wTo_len h (versL h key) ((versL h key).length - 1)
 have h2:=rTo_cnt h key (versL h key) h.length
 have h3:=nodup_count (versL h key) h.length (c3 h key) (vers_nodup h key) (fun x hx=>⟨vers_lt h key x hx,by
  unfold versL at hx
  obtain ⟨i,_,hv⟩:=List.mem_filterMap.1 hx
  have:=verOf_some hv
  unfold c3
  rw [Bool.and_eq_true,decide_eq_true_eq,decide_eq_true_eq]
  exact ⟨this.2.2.2.1,this.2.2.2.2.2.1⟩⟩)
 have h4:=c_sum h key h.length
 omega
theorem edges_few (h:List Ev):(edgesL h).length≤2*h.length:=by
 unfold edgesL
 rw [List.length_flatMap]
 have nd:(keysL h).Nodup:=List.Pairwise.imp (fun {a b} hlt e=>by rw [e] at hlt;exact List.lt_irrefl b hlt) (keysL_sorted h)
 have h1:=sum_le (fun key=>(keyEdges h key).length) (fun key=>kCnt h h.length key+kCnt h h.length key) (keysL h) (fun k _=>by have:=key_cnt h k;omega)
 rw [sum_add] at h1
 have h2:=kCnt_sum h (keysL h) nd h.length
 omega
set_option maxHeartbeats 4000000 in
theorem rh_a (w:World) (k f t I J:Int) (n:Nat) (ah:Option Addr) (ch:Nat) (ih:n≤ch) (jh:ch≤9223372036854775807) (kh:n≤140737488351232)
 (B:Int)
 (D1:∀ W,Below w.heap.size w W→Calls Tryz.prog 47 #[.slice ah n ch,.int .i64 f] W fun e w'=>e=.returned (.int .i64 (-1))∧Below W.heap.size W w')
 (D2:∀ W,Below w.heap.size w W→Calls Tryz.prog 47 #[.slice ah n ch,.int .i64 t] W fun e w'=>e=.returned (.int .i64 B)∧Below W.heap.size W w') :
 Calls Tryz.prog 39 #[.slice ah n ch,.agg #[.int .i64 k,.int .i64 f,.int .i64 t,.int .i64 I,.int .i64 J]] w fun e w'=>e=.returned (.bool false)∧Below w.heap.size w w':=by
 have X0:=SBox.new w 71 #[.int .i64 k,.int .i64 f,.int .i64 t,.int .i64 I,.int .i64 J]
 have B0:=(Below.refl w.heap.size w).alloc (Nat.le_refl _) (.cells #[.int .i64 k,.int .i64 f,.int .i64 t,.int .i64 I,.int .i64 J] 71)
 go_enter Tryz.func39,Tryz.ntmps39
 have c1:(w.alloc (.cells #[.int .i64 k,.int .i64 f,.int .i64 t,.int .i64 I,.int .i64 J] 71)).cell? ⟨w.heap.size,1,none⟩=some (.int .i64 f):=X0.cell 1 _ rfl
 go_wp2_with fail
 refine (D1 _ B0).mono ?_
 rintro e' w1 ⟨rfl,b1⟩
 have B1:=bel_trans B0 b1
 have X1:=X0.below b1
 have c2:w1.cell? ⟨w.heap.size,2,none⟩=some (.int .i64 t):=X1.cell 2 _ rfl
 clear c1
 go_wp2_with fail
 refine (D2 _ B1).mono ?_
 rintro e' w2 ⟨rfl,b2⟩
 have B2:=bel_trans B1 b2
 have X2:=X1.below b2
 clear c2
 have d0:w2.cell? ⟨w.heap.size,0,none⟩=some (.int .i64 k):=X2.cell 0 _ rfl
 have d1:w2.cell? ⟨w.heap.size,1,none⟩=some (.int .i64 f):=X2.cell 1 _ rfl
 have d2:w2.cell? ⟨w.heap.size,2,none⟩=some (.int .i64 t):=X2.cell 2 _ rfl
 have d3:w2.cell? ⟨w.heap.size,3,none⟩=some (.int .i64 I):=X2.cell 3 _ rfl
 have d4:w2.cell? ⟨w.heap.size,4,none⟩=some (.int .i64 J):=X2.cell 4 _ rfl
 go_wp2_with fail
 go_ret
 exact ⟨rfl,B2⟩
set_option maxHeartbeats 4000000 in
theorem rh_b (w:World) (k f t I J:Int) (n:Nat) (ah:Option Addr) (ch:Nat) (ih:n≤ch) (jh:ch≤9223372036854775807) (kh:n≤140737488351232)
 (a:Nat)
 (D1:∀ W,Below w.heap.size w W→Calls Tryz.prog 47 #[.slice ah n ch,.int .i64 f] W fun e w'=>e=.returned (.int .i64 (a:Int))∧Below W.heap.size W w')
 (D2:∀ W,Below w.heap.size w W→Calls Tryz.prog 47 #[.slice ah n ch,.int .i64 t] W fun e w'=>e=.returned (.int .i64 (-1))∧Below W.heap.size W w') :
 Calls Tryz.prog 39 #[.slice ah n ch,.agg #[.int .i64 k,.int .i64 f,.int .i64 t,.int .i64 I,.int .i64 J]] w fun e w'=>e=.returned (.bool false)∧Below w.heap.size w w':=by
 have i1:¬ (a:Int) < 0:=by omega
 have X0:=SBox.new w 71 #[.int .i64 k,.int .i64 f,.int .i64 t,.int .i64 I,.int .i64 J]
 have B0:=(Below.refl w.heap.size w).alloc (Nat.le_refl _) (.cells #[.int .i64 k,.int .i64 f,.int .i64 t,.int .i64 I,.int .i64 J] 71)
 go_enter Tryz.func39,Tryz.ntmps39
 have c1:(w.alloc (.cells #[.int .i64 k,.int .i64 f,.int .i64 t,.int .i64 I,.int .i64 J] 71)).cell? ⟨w.heap.size,1,none⟩=some (.int .i64 f):=X0.cell 1 _ rfl
 go_wp2_with fail
 refine (D1 _ B0).mono ?_
 rintro e' w1 ⟨rfl,b1⟩
 have B1:=bel_trans B0 b1
 have X1:=X0.below b1
 have c2:w1.cell? ⟨w.heap.size,2,none⟩=some (.int .i64 t):=X1.cell 2 _ rfl
 clear c1
 go_wp2_with fail
 refine (D2 _ B1).mono ?_
 rintro e' w2 ⟨rfl,b2⟩
 have B2:=bel_trans B1 b2
 have X2:=X1.below b2
 clear c2
 have d0:w2.cell? ⟨w.heap.size,0,none⟩=some (.int .i64 k):=X2.cell 0 _ rfl
 have d1:w2.cell? ⟨w.heap.size,1,none⟩=some (.int .i64 f):=X2.cell 1 _ rfl
 have d2:w2.cell? ⟨w.heap.size,2,none⟩=some (.int .i64 t):=X2.cell 2 _ rfl
 have d3:w2.cell? ⟨w.heap.size,3,none⟩=some (.int .i64 I):=X2.cell 3 _ rfl
 have d4:w2.cell? ⟨w.heap.size,4,none⟩=some (.int .i64 J):=X2.cell 4 _ rfl
 go_wp2_with fail
 go_ret
 exact ⟨rfl,B2⟩
set_option maxHeartbeats 4000000 in
theorem rh_c (w:World) (k f I J:Int) (n:Nat) (ah:Option Addr) (ch:Nat) (ih:n≤ch) (jh:ch≤9223372036854775807) (kh:n≤140737488351232)
 (a b:Nat)
 (D1:∀ W,Below w.heap.size w W→Calls Tryz.prog 47 #[.slice ah n ch,.int .i64 f] W fun e w'=>e=.returned (.int .i64 (a:Int))∧Below W.heap.size W w')
 (D2:∀ W,Below w.heap.size w W→Calls Tryz.prog 47 #[.slice ah n ch,.int .i64 f] W fun e w'=>e=.returned (.int .i64 (b:Int))∧Below W.heap.size W w')
  :
 Calls Tryz.prog 39 #[.slice ah n ch,.agg #[.int .i64 k,.int .i64 f,.int .i64 f,.int .i64 I,.int .i64 J]] w fun e w'=>e=.returned (.bool false)∧Below w.heap.size w w':=by
 have i1:¬ (a:Int) < 0:=by omega
 have i2:¬ (b:Int) < 0:=by omega
 have X0:=SBox.new w 71 #[.int .i64 k,.int .i64 f,.int .i64 f,.int .i64 I,.int .i64 J]
 have B0:=(Below.refl w.heap.size w).alloc (Nat.le_refl _) (.cells #[.int .i64 k,.int .i64 f,.int .i64 f,.int .i64 I,.int .i64 J] 71)
 go_enter Tryz.func39,Tryz.ntmps39
 have c1:(w.alloc (.cells #[.int .i64 k,.int .i64 f,.int .i64 f,.int .i64 I,.int .i64 J] 71)).cell? ⟨w.heap.size,1,none⟩=some (.int .i64 f):=X0.cell 1 _ rfl
 go_wp2_with fail
 refine (D1 _ B0).mono ?_
 rintro e' w1 ⟨rfl,b1⟩
 have B1:=bel_trans B0 b1
 have X1:=X0.below b1
 have c2:w1.cell? ⟨w.heap.size,2,none⟩=some (.int .i64 f):=X1.cell 2 _ rfl
 clear c1
 go_wp2_with fail
 refine (D2 _ B1).mono ?_
 rintro e' w2 ⟨rfl,b2⟩
 have B2:=bel_trans B1 b2
 have X2:=X1.below b2
 clear c2
 have d0:w2.cell? ⟨w.heap.size,0,none⟩=some (.int .i64 k):=X2.cell 0 _ rfl
 have d1:w2.cell? ⟨w.heap.size,1,none⟩=some (.int .i64 f):=X2.cell 1 _ rfl
 have d2:w2.cell? ⟨w.heap.size,2,none⟩=some (.int .i64 f):=X2.cell 2 _ rfl
 have d3:w2.cell? ⟨w.heap.size,3,none⟩=some (.int .i64 I):=X2.cell 3 _ rfl
 have d4:w2.cell? ⟨w.heap.size,4,none⟩=some (.int .i64 J):=X2.cell 4 _ rfl
 go_wp2_with fail
 go_ret
 exact ⟨rfl,B2⟩
set_option maxHeartbeats 4000000 in
theorem rh_d (w:World) (k f t I J:Int) (n:Nat) (ah:Option Addr) (ch:Nat) (ih:n≤ch) (jh:ch≤9223372036854775807) (kh:n≤140737488351232)
 (a b:Nat)
 (D1:∀ W,Below w.heap.size w W→Calls Tryz.prog 47 #[.slice ah n ch,.int .i64 f] W fun e w'=>e=.returned (.int .i64 (a:Int))∧Below W.heap.size W w')
 (D2:∀ W,Below w.heap.size w W→Calls Tryz.prog 47 #[.slice ah n ch,.int .i64 t] W fun e w'=>e=.returned (.int .i64 (b:Int))∧Below W.heap.size W w')
 (e1:(f==t)=false) (g2:I < 0) :
 Calls Tryz.prog 39 #[.slice ah n ch,.agg #[.int .i64 k,.int .i64 f,.int .i64 t,.int .i64 I,.int .i64 J]] w fun e w'=>e=.returned (.bool false)∧Below w.heap.size w w':=by
 have i1:¬ (a:Int) < 0:=by omega
 have i2:¬ (b:Int) < 0:=by omega
 have X0:=SBox.new w 71 #[.int .i64 k,.int .i64 f,.int .i64 t,.int .i64 I,.int .i64 J]
 have B0:=(Below.refl w.heap.size w).alloc (Nat.le_refl _) (.cells #[.int .i64 k,.int .i64 f,.int .i64 t,.int .i64 I,.int .i64 J] 71)
 go_enter Tryz.func39,Tryz.ntmps39
 have c1:(w.alloc (.cells #[.int .i64 k,.int .i64 f,.int .i64 t,.int .i64 I,.int .i64 J] 71)).cell? ⟨w.heap.size,1,none⟩=some (.int .i64 f):=X0.cell 1 _ rfl
 go_wp2_with fail
 refine (D1 _ B0).mono ?_
 rintro e' w1 ⟨rfl,b1⟩
 have B1:=bel_trans B0 b1
 have X1:=X0.below b1
 have c2:w1.cell? ⟨w.heap.size,2,none⟩=some (.int .i64 t):=X1.cell 2 _ rfl
 clear c1
 go_wp2_with fail
 refine (D2 _ B1).mono ?_
 rintro e' w2 ⟨rfl,b2⟩
 have B2:=bel_trans B1 b2
 have X2:=X1.below b2
 clear c2
 have d0:w2.cell? ⟨w.heap.size,0,none⟩=some (.int .i64 k):=X2.cell 0 _ rfl
 have d1:w2.cell? ⟨w.heap.size,1,none⟩=some (.int .i64 f):=X2.cell 1 _ rfl
 have d2:w2.cell? ⟨w.heap.size,2,none⟩=some (.int .i64 t):=X2.cell 2 _ rfl
 have d3:w2.cell? ⟨w.heap.size,3,none⟩=some (.int .i64 I):=X2.cell 3 _ rfl
 have d4:w2.cell? ⟨w.heap.size,4,none⟩=some (.int .i64 J):=X2.cell 4 _ rfl
 go_wp2_with fail
 go_ret
 exact ⟨rfl,B2⟩
set_option maxHeartbeats 4000000 in
theorem rh_e (w:World) (k f t I J:Int) (n:Nat) (ah:Option Addr) (ch:Nat) (ih:n≤ch) (jh:ch≤9223372036854775807) (kh:n≤140737488351232)
 (a b:Nat)
 (D1:∀ W,Below w.heap.size w W→Calls Tryz.prog 47 #[.slice ah n ch,.int .i64 f] W fun e w'=>e=.returned (.int .i64 (a:Int))∧Below W.heap.size W w')
 (D2:∀ W,Below w.heap.size w W→Calls Tryz.prog 47 #[.slice ah n ch,.int .i64 t] W fun e w'=>e=.returned (.int .i64 (b:Int))∧Below W.heap.size W w')
 (e1:(f==t)=false) (g2:¬ I < 0) (g3:(n:Int)≤I) :
 Calls Tryz.prog 39 #[.slice ah n ch,.agg #[.int .i64 k,.int .i64 f,.int .i64 t,.int .i64 I,.int .i64 J]] w fun e w'=>e=.returned (.bool false)∧Below w.heap.size w w':=by
 have i1:¬ (a:Int) < 0:=by omega
 have i2:¬ (b:Int) < 0:=by omega
 have X0:=SBox.new w 71 #[.int .i64 k,.int .i64 f,.int .i64 t,.int .i64 I,.int .i64 J]
 have B0:=(Below.refl w.heap.size w).alloc (Nat.le_refl _) (.cells #[.int .i64 k,.int .i64 f,.int .i64 t,.int .i64 I,.int .i64 J] 71)
 go_enter Tryz.func39,Tryz.ntmps39
 have c1:(w.alloc (.cells #[.int .i64 k,.int .i64 f,.int .i64 t,.int .i64 I,.int .i64 J] 71)).cell? ⟨w.heap.size,1,none⟩=some (.int .i64 f):=X0.cell 1 _ rfl
 go_wp2_with fail
 refine (D1 _ B0).mono ?_
 rintro e' w1 ⟨rfl,b1⟩
 have B1:=bel_trans B0 b1
 have X1:=X0.below b1
 have c2:w1.cell? ⟨w.heap.size,2,none⟩=some (.int .i64 t):=X1.cell 2 _ rfl
 clear c1
 go_wp2_with fail
 refine (D2 _ B1).mono ?_
 rintro e' w2 ⟨rfl,b2⟩
 have B2:=bel_trans B1 b2
 have X2:=X1.below b2
 clear c2
 have d0:w2.cell? ⟨w.heap.size,0,none⟩=some (.int .i64 k):=X2.cell 0 _ rfl
 have d1:w2.cell? ⟨w.heap.size,1,none⟩=some (.int .i64 f):=X2.cell 1 _ rfl
 have d2:w2.cell? ⟨w.heap.size,2,none⟩=some (.int .i64 t):=X2.cell 2 _ rfl
 have d3:w2.cell? ⟨w.heap.size,3,none⟩=some (.int .i64 I):=X2.cell 3 _ rfl
 have d4:w2.cell? ⟨w.heap.size,4,none⟩=some (.int .i64 J):=X2.cell 4 _ rfl
 go_wp2_with fail
 go_ret
 exact ⟨rfl,B2⟩
set_option maxHeartbeats 4000000 in
theorem rh_f (w:World) (k f t I J:Int) (n:Nat) (ah:Option Addr) (ch:Nat) (ih:n≤ch) (jh:ch≤9223372036854775807) (kh:n≤140737488351232)
 (a b:Nat)
 (D1:∀ W,Below w.heap.size w W→Calls Tryz.prog 47 #[.slice ah n ch,.int .i64 f] W fun e w'=>e=.returned (.int .i64 (a:Int))∧Below W.heap.size W w')
 (D2:∀ W,Below w.heap.size w W→Calls Tryz.prog 47 #[.slice ah n ch,.int .i64 t] W fun e w'=>e=.returned (.int .i64 (b:Int))∧Below W.heap.size W w')
 (e1:(f==t)=false) (g2:¬ I < 0) (g3:¬ (n:Int)≤I) (g4:J < 0) :
 Calls Tryz.prog 39 #[.slice ah n ch,.agg #[.int .i64 k,.int .i64 f,.int .i64 t,.int .i64 I,.int .i64 J]] w fun e w'=>e=.returned (.bool false)∧Below w.heap.size w w':=by
 have i1:¬ (a:Int) < 0:=by omega
 have i2:¬ (b:Int) < 0:=by omega
 have X0:=SBox.new w 71 #[.int .i64 k,.int .i64 f,.int .i64 t,.int .i64 I,.int .i64 J]
 have B0:=(Below.refl w.heap.size w).alloc (Nat.le_refl _) (.cells #[.int .i64 k,.int .i64 f,.int .i64 t,.int .i64 I,.int .i64 J] 71)
 go_enter Tryz.func39,Tryz.ntmps39
 have c1:(w.alloc (.cells #[.int .i64 k,.int .i64 f,.int .i64 t,.int .i64 I,.int .i64 J] 71)).cell? ⟨w.heap.size,1,none⟩=some (.int .i64 f):=X0.cell 1 _ rfl
 go_wp2_with fail
 refine (D1 _ B0).mono ?_
 rintro e' w1 ⟨rfl,b1⟩
 have B1:=bel_trans B0 b1
 have X1:=X0.below b1
 have c2:w1.cell? ⟨w.heap.size,2,none⟩=some (.int .i64 t):=X1.cell 2 _ rfl
 clear c1
 go_wp2_with fail
 refine (D2 _ B1).mono ?_
 rintro e' w2 ⟨rfl,b2⟩
 have B2:=bel_trans B1 b2
 have X2:=X1.below b2
 clear c2
 have d0:w2.cell? ⟨w.heap.size,0,none⟩=some (.int .i64 k):=X2.cell 0 _ rfl
 have d1:w2.cell? ⟨w.heap.size,1,none⟩=some (.int .i64 f):=X2.cell 1 _ rfl
 have d2:w2.cell? ⟨w.heap.size,2,none⟩=some (.int .i64 t):=X2.cell 2 _ rfl
 have d3:w2.cell? ⟨w.heap.size,3,none⟩=some (.int .i64 I):=X2.cell 3 _ rfl
 have d4:w2.cell? ⟨w.heap.size,4,none⟩=some (.int .i64 J):=X2.cell 4 _ rfl
 go_wp2_with fail
 go_ret
 exact ⟨rfl,B2⟩
set_option maxHeartbeats 4000000 in
theorem rh_g (w:World) (k f t I J:Int) (n:Nat) (ah:Option Addr) (ch:Nat) (ih:n≤ch) (jh:ch≤9223372036854775807) (kh:n≤140737488351232)
 (a b:Nat)
 (D1:∀ W,Below w.heap.size w W→Calls Tryz.prog 47 #[.slice ah n ch,.int .i64 f] W fun e w'=>e=.returned (.int .i64 (a:Int))∧Below W.heap.size W w')
 (D2:∀ W,Below w.heap.size w W→Calls Tryz.prog 47 #[.slice ah n ch,.int .i64 t] W fun e w'=>e=.returned (.int .i64 (b:Int))∧Below W.heap.size W w')
 (e1:(f==t)=false) (g2:¬ I < 0) (g3:¬ (n:Int)≤I) (g4:¬ J < 0) (g5:(n:Int)≤J) :
 Calls Tryz.prog 39 #[.slice ah n ch,.agg #[.int .i64 k,.int .i64 f,.int .i64 t,.int .i64 I,.int .i64 J]] w fun e w'=>e=.returned (.bool false)∧Below w.heap.size w w':=by
 have i1:¬ (a:Int) < 0:=by omega
 have i2:¬ (b:Int) < 0:=by omega
 have X0:=SBox.new w 71 #[.int .i64 k,.int .i64 f,.int .i64 t,.int .i64 I,.int .i64 J]
 have B0:=(Below.refl w.heap.size w).alloc (Nat.le_refl _) (.cells #[.int .i64 k,.int .i64 f,.int .i64 t,.int .i64 I,.int .i64 J] 71)
 go_enter Tryz.func39,Tryz.ntmps39
 have c1:(w.alloc (.cells #[.int .i64 k,.int .i64 f,.int .i64 t,.int .i64 I,.int .i64 J] 71)).cell? ⟨w.heap.size,1,none⟩=some (.int .i64 f):=X0.cell 1 _ rfl
 go_wp2_with fail
 refine (D1 _ B0).mono ?_
 rintro e' w1 ⟨rfl,b1⟩
 have B1:=bel_trans B0 b1
 have X1:=X0.below b1
 have c2:w1.cell? ⟨w.heap.size,2,none⟩=some (.int .i64 t):=X1.cell 2 _ rfl
 clear c1
 go_wp2_with fail
 refine (D2 _ B1).mono ?_
 rintro e' w2 ⟨rfl,b2⟩
 have B2:=bel_trans B1 b2
 have X2:=X1.below b2
 clear c2
 have d0:w2.cell? ⟨w.heap.size,0,none⟩=some (.int .i64 k):=X2.cell 0 _ rfl
 have d1:w2.cell? ⟨w.heap.size,1,none⟩=some (.int .i64 f):=X2.cell 1 _ rfl
 have d2:w2.cell? ⟨w.heap.size,2,none⟩=some (.int .i64 t):=X2.cell 2 _ rfl
 have d3:w2.cell? ⟨w.heap.size,3,none⟩=some (.int .i64 I):=X2.cell 3 _ rfl
 have d4:w2.cell? ⟨w.heap.size,4,none⟩=some (.int .i64 J):=X2.cell 4 _ rfl
 go_wp2_with fail
 go_ret
 exact ⟨rfl,B2⟩
set_option maxHeartbeats 4000000 in
theorem rh_k1 (w:World) (k f t:Int) (i j:Nat) (n:Nat) (bb off:Nat) (ch:Nat) (ih:n≤ch) (jh:ch≤9223372036854775807) (kh:n≤140737488351232)
 (a b:Nat) (x0 x1 y0 y1:Int) (x2 x3 y2 y3:List UInt8) (e1:(f==t)=false) (hi:i < n) (hj:j < n)
 (HP:Hid (∀ V,Below w.heap.size w V→V.cell? ⟨bb,off+i*4,none⟩=some (.int .i64 x0)∧V.cell? ⟨bb,off+i*4+1,none⟩=some (.int .i64 x1)∧V.cell? ⟨bb,off+i*4+2,none⟩=some (.string ⟨x2.toArray⟩)∧V.cell? ⟨bb,off+i*4+3,none⟩=some (.string ⟨x3.toArray⟩)))
 (HR:Hid (∀ V,Below w.heap.size w V→V.cell? ⟨bb,off+j*4,none⟩=some (.int .i64 y0)∧V.cell? ⟨bb,off+j*4+1,none⟩=some (.int .i64 y1)∧V.cell? ⟨bb,off+j*4+2,none⟩=some (.string ⟨y2.toArray⟩)∧V.cell? ⟨bb,off+j*4+3,none⟩=some (.string ⟨y3.toArray⟩)))
 (D1:∀ W,Below w.heap.size w W→Calls Tryz.prog 47 #[.slice (some ⟨bb,off,none⟩) n ch,.int .i64 f] W fun e w'=>e=.returned (.int .i64 (a:Int))∧Below W.heap.size W w')
 (D2:∀ W,Below w.heap.size w W→Calls Tryz.prog 47 #[.slice (some ⟨bb,off,none⟩) n ch,.int .i64 t] W fun e w'=>e=.returned (.int .i64 (b:Int))∧Below W.heap.size W w')
 (f1:(x2 != y2)=true) (f2:(x2==y2)=false) (f3:¬ x2=y2) (f4:decide (x2=y2)=false) :
 Calls Tryz.prog 39 #[.slice (some ⟨bb,off,none⟩) n ch,.agg #[.int .i64 k,.int .i64 f,.int .i64 t,.int .i64 (i:Int),.int .i64 (j:Int)]] w fun e w'=>e=.returned (.bool false)∧Below w.heap.size w w':=by
 have i1:¬ (a:Int) < 0:=by omega
 have i2:¬ (b:Int) < 0:=by omega
 have g2:¬ (i:Int) < 0:=by omega
 have g3:¬ (n:Int)≤(i:Int):=by omega
 have g4:¬ (j:Int) < 0:=by omega
 have g5:¬ (n:Int)≤(j:Int):=by omega
 have X0:=SBox.new w 71 #[.int .i64 k,.int .i64 f,.int .i64 t,.int .i64 (i:Int),.int .i64 (j:Int)]
 have B0:=(Below.refl w.heap.size w).alloc (Nat.le_refl _) (.cells #[.int .i64 k,.int .i64 f,.int .i64 t,.int .i64 (i:Int),.int .i64 (j:Int)] 71)
 go_enter Tryz.func39,Tryz.ntmps39
 have c1:(w.alloc (.cells #[.int .i64 k,.int .i64 f,.int .i64 t,.int .i64 (i:Int),.int .i64 (j:Int)] 71)).cell? ⟨w.heap.size,1,none⟩=some (.int .i64 f):=X0.cell 1 _ rfl
 go_wp2_with fail
 refine (D1 _ B0).mono ?_
 rintro e' w1 ⟨rfl,b1⟩
 have B1:=bel_trans B0 b1
 have X1:=X0.below b1
 have c2:w1.cell? ⟨w.heap.size,2,none⟩=some (.int .i64 t):=X1.cell 2 _ rfl
 clear c1
 go_wp2_with fail
 refine (D2 _ B1).mono ?_
 rintro e' w2 ⟨rfl,b2⟩
 have B2:=bel_trans B1 b2
 have X2:=X1.below b2
 clear c2
 have d0:w2.cell? ⟨w.heap.size,0,none⟩=some (.int .i64 k):=X2.cell 0 _ rfl
 have d1:w2.cell? ⟨w.heap.size,1,none⟩=some (.int .i64 f):=X2.cell 1 _ rfl
 have d2:w2.cell? ⟨w.heap.size,2,none⟩=some (.int .i64 t):=X2.cell 2 _ rfl
 have d3:w2.cell? ⟨w.heap.size,3,none⟩=some (.int .i64 (i:Int)):=X2.cell 3 _ rfl
 have d4:w2.cell? ⟨w.heap.size,4,none⟩=some (.int .i64 (j:Int)):=X2.cell 4 _ rfl
 obtain ⟨p0,p1,p2,p3⟩:=HP.out _ B2
 have B3:=B2.alloc B2.size (.cells #[.int .i64 x0,.int .i64 x1,.string ⟨x2.toArray⟩,.string ⟨x3.toArray⟩] 49)
 have B4:=B3.alloc B3.size (.cells #[.int .i64 y0,.int .i64 y1,.string ⟨y2.toArray⟩,.string ⟨y3.toArray⟩] 49)
 have X4:=(X2.alloc (.cells #[.int .i64 x0,.int .i64 x1,.string ⟨x2.toArray⟩,.string ⟨x3.toArray⟩] 49)).alloc (.cells #[.int .i64 y0,.int .i64 y1,.string ⟨y2.toArray⟩,.string ⟨y3.toArray⟩] 49)
 have Y4:=(SBox.new w2 49 #[.int .i64 x0,.int .i64 x1,.string ⟨x2.toArray⟩,.string ⟨x3.toArray⟩]).alloc (.cells #[.int .i64 y0,.int .i64 y1,.string ⟨y2.toArray⟩,.string ⟨y3.toArray⟩] 49)
 obtain ⟨q0,q1,q2,q3⟩:=HR.out _ B3
 have X3:=X2.alloc (.cells #[.int .i64 x0,.int .i64 x1,.string ⟨x2.toArray⟩,.string ⟨x3.toArray⟩] 49)
 have Z4:=SBox.new (w2.alloc (.cells #[.int .i64 x0,.int .i64 x1,.string ⟨x2.toArray⟩,.string ⟨x3.toArray⟩] 49)) 49 #[.int .i64 y0,.int .i64 y1,.string ⟨y2.toArray⟩,.string ⟨y3.toArray⟩]
 have hz:(w2.alloc (.cells #[.int .i64 x0,.int .i64 x1,.string ⟨x2.toArray⟩,.string ⟨x3.toArray⟩] 49)).heap.size=w2.heap.size+1:=Array.size_push ..
 have m4:=X3.cell 4 _ rfl
 have x40:=X4.cell 0 _ rfl
 have x41:=X4.cell 1 _ rfl
 have x42:=X4.cell 2 _ rfl
 have y40:=Y4.cell 0 _ rfl
 have y41:=Y4.cell 1 _ rfl
 have y42:=Y4.cell 2 _ rfl
 have y43:=Y4.cell 3 _ rfl
 have z40:=Z4.cell 0 _ rfl
 have z41:=Z4.cell 1 _ rfl
 have z42:=Z4.cell 2 _ rfl
 have z43:=Z4.cell 3 _ rfl
 go_wp2_with fail
 go_ret
 exact ⟨rfl,B4⟩
set_option maxHeartbeats 4000000 in
theorem rh_k2 (w:World) (k f t:Int) (i j:Nat) (n:Nat) (bb off:Nat) (ch:Nat) (ih:n≤ch) (jh:ch≤9223372036854775807) (kh:n≤140737488351232)
 (a b:Nat) (x0 x1 y0 y1:Int) (x2 x3 y3:List UInt8) (e1:(f==t)=false) (hi:i < n) (hj:j < n)
 (HP:Hid (∀ V,Below w.heap.size w V→V.cell? ⟨bb,off+i*4,none⟩=some (.int .i64 x0)∧V.cell? ⟨bb,off+i*4+1,none⟩=some (.int .i64 x1)∧V.cell? ⟨bb,off+i*4+2,none⟩=some (.string ⟨x2.toArray⟩)∧V.cell? ⟨bb,off+i*4+3,none⟩=some (.string ⟨x3.toArray⟩)))
 (HR:Hid (∀ V,Below w.heap.size w V→V.cell? ⟨bb,off+j*4,none⟩=some (.int .i64 y0)∧V.cell? ⟨bb,off+j*4+1,none⟩=some (.int .i64 y1)∧V.cell? ⟨bb,off+j*4+2,none⟩=some (.string ⟨x2.toArray⟩)∧V.cell? ⟨bb,off+j*4+3,none⟩=some (.string ⟨y3.toArray⟩)))
 (D1:∀ W,Below w.heap.size w W→Calls Tryz.prog 47 #[.slice (some ⟨bb,off,none⟩) n ch,.int .i64 f] W fun e w'=>e=.returned (.int .i64 (a:Int))∧Below W.heap.size W w')
 (D2:∀ W,Below w.heap.size w W→Calls Tryz.prog 47 #[.slice (some ⟨bb,off,none⟩) n ch,.int .i64 t] W fun e w'=>e=.returned (.int .i64 (b:Int))∧Below W.heap.size W w')
 (f2:(x1 != f)=true) :
 Calls Tryz.prog 39 #[.slice (some ⟨bb,off,none⟩) n ch,.agg #[.int .i64 k,.int .i64 f,.int .i64 t,.int .i64 (i:Int),.int .i64 (j:Int)]] w fun e w'=>e=.returned (.bool false)∧Below w.heap.size w w':=by
 have i1:¬ (a:Int) < 0:=by omega
 have i2:¬ (b:Int) < 0:=by omega
 have g2:¬ (i:Int) < 0:=by omega
 have g3:¬ (n:Int)≤(i:Int):=by omega
 have g4:¬ (j:Int) < 0:=by omega
 have g5:¬ (n:Int)≤(j:Int):=by omega
 have X0:=SBox.new w 71 #[.int .i64 k,.int .i64 f,.int .i64 t,.int .i64 (i:Int),.int .i64 (j:Int)]
 have B0:=(Below.refl w.heap.size w).alloc (Nat.le_refl _) (.cells #[.int .i64 k,.int .i64 f,.int .i64 t,.int .i64 (i:Int),.int .i64 (j:Int)] 71)
 go_enter Tryz.func39,Tryz.ntmps39
 have c1:(w.alloc (.cells #[.int .i64 k,.int .i64 f,.int .i64 t,.int .i64 (i:Int),.int .i64 (j:Int)] 71)).cell? ⟨w.heap.size,1,none⟩=some (.int .i64 f):=X0.cell 1 _ rfl
 go_wp2_with fail
 refine (D1 _ B0).mono ?_
 rintro e' w1 ⟨rfl,b1⟩
 have B1:=bel_trans B0 b1
 have X1:=X0.below b1
 have c2:w1.cell? ⟨w.heap.size,2,none⟩=some (.int .i64 t):=X1.cell 2 _ rfl
 clear c1
 go_wp2_with fail
 refine (D2 _ B1).mono ?_
 rintro e' w2 ⟨rfl,b2⟩
 have B2:=bel_trans B1 b2
 have X2:=X1.below b2
 clear c2
 have d0:w2.cell? ⟨w.heap.size,0,none⟩=some (.int .i64 k):=X2.cell 0 _ rfl
 have d1:w2.cell? ⟨w.heap.size,1,none⟩=some (.int .i64 f):=X2.cell 1 _ rfl
 have d2:w2.cell? ⟨w.heap.size,2,none⟩=some (.int .i64 t):=X2.cell 2 _ rfl
 have d3:w2.cell? ⟨w.heap.size,3,none⟩=some (.int .i64 (i:Int)):=X2.cell 3 _ rfl
 have d4:w2.cell? ⟨w.heap.size,4,none⟩=some (.int .i64 (j:Int)):=X2.cell 4 _ rfl
 obtain ⟨p0,p1,p2,p3⟩:=HP.out _ B2
 have B3:=B2.alloc B2.size (.cells #[.int .i64 x0,.int .i64 x1,.string ⟨x2.toArray⟩,.string ⟨x3.toArray⟩] 49)
 have B4:=B3.alloc B3.size (.cells #[.int .i64 y0,.int .i64 y1,.string ⟨x2.toArray⟩,.string ⟨y3.toArray⟩] 49)
 have X4:=(X2.alloc (.cells #[.int .i64 x0,.int .i64 x1,.string ⟨x2.toArray⟩,.string ⟨x3.toArray⟩] 49)).alloc (.cells #[.int .i64 y0,.int .i64 y1,.string ⟨x2.toArray⟩,.string ⟨y3.toArray⟩] 49)
 have Y4:=(SBox.new w2 49 #[.int .i64 x0,.int .i64 x1,.string ⟨x2.toArray⟩,.string ⟨x3.toArray⟩]).alloc (.cells #[.int .i64 y0,.int .i64 y1,.string ⟨x2.toArray⟩,.string ⟨y3.toArray⟩] 49)
 obtain ⟨q0,q1,q2,q3⟩:=HR.out _ B3
 have X3:=X2.alloc (.cells #[.int .i64 x0,.int .i64 x1,.string ⟨x2.toArray⟩,.string ⟨x3.toArray⟩] 49)
 have Z4:=SBox.new (w2.alloc (.cells #[.int .i64 x0,.int .i64 x1,.string ⟨x2.toArray⟩,.string ⟨x3.toArray⟩] 49)) 49 #[.int .i64 y0,.int .i64 y1,.string ⟨x2.toArray⟩,.string ⟨y3.toArray⟩]
 have hz:(w2.alloc (.cells #[.int .i64 x0,.int .i64 x1,.string ⟨x2.toArray⟩,.string ⟨x3.toArray⟩] 49)).heap.size=w2.heap.size+1:=Array.size_push ..
 have m4:=X3.cell 4 _ rfl
 have x40:=X4.cell 0 _ rfl
 have x41:=X4.cell 1 _ rfl
 have x42:=X4.cell 2 _ rfl
 have y40:=Y4.cell 0 _ rfl
 have y41:=Y4.cell 1 _ rfl
 have y42:=Y4.cell 2 _ rfl
 have y43:=Y4.cell 3 _ rfl
 have z40:=Z4.cell 0 _ rfl
 have z41:=Z4.cell 1 _ rfl
 have z42:=Z4.cell 2 _ rfl
 have z43:=Z4.cell 3 _ rfl
 go_wp2_with fail
 go_ret
 exact ⟨rfl,B4⟩
set_option maxHeartbeats 4000000 in
theorem rh_k3 (w:World) (k f t:Int) (i j:Nat) (n:Nat) (bb off:Nat) (ch:Nat) (ih:n≤ch) (jh:ch≤9223372036854775807) (kh:n≤140737488351232)
 (a b:Nat) (x0 y0 y1:Int) (x2 x3 y3:List UInt8) (e1:(f==t)=false) (hi:i < n) (hj:j < n)
 (HP:Hid (∀ V,Below w.heap.size w V→V.cell? ⟨bb,off+i*4,none⟩=some (.int .i64 x0)∧V.cell? ⟨bb,off+i*4+1,none⟩=some (.int .i64 f)∧V.cell? ⟨bb,off+i*4+2,none⟩=some (.string ⟨x2.toArray⟩)∧V.cell? ⟨bb,off+i*4+3,none⟩=some (.string ⟨x3.toArray⟩)))
 (HR:Hid (∀ V,Below w.heap.size w V→V.cell? ⟨bb,off+j*4,none⟩=some (.int .i64 y0)∧V.cell? ⟨bb,off+j*4+1,none⟩=some (.int .i64 y1)∧V.cell? ⟨bb,off+j*4+2,none⟩=some (.string ⟨x2.toArray⟩)∧V.cell? ⟨bb,off+j*4+3,none⟩=some (.string ⟨y3.toArray⟩)))
 (D1:∀ W,Below w.heap.size w W→Calls Tryz.prog 47 #[.slice (some ⟨bb,off,none⟩) n ch,.int .i64 f] W fun e w'=>e=.returned (.int .i64 (a:Int))∧Below W.heap.size W w')
 (D2:∀ W,Below w.heap.size w W→Calls Tryz.prog 47 #[.slice (some ⟨bb,off,none⟩) n ch,.int .i64 t] W fun e w'=>e=.returned (.int .i64 (b:Int))∧Below W.heap.size W w')
 (f3:(y1 != t)=true) :
 Calls Tryz.prog 39 #[.slice (some ⟨bb,off,none⟩) n ch,.agg #[.int .i64 k,.int .i64 f,.int .i64 t,.int .i64 (i:Int),.int .i64 (j:Int)]] w fun e w'=>e=.returned (.bool false)∧Below w.heap.size w w':=by
 have i1:¬ (a:Int) < 0:=by omega
 have i2:¬ (b:Int) < 0:=by omega
 have g2:¬ (i:Int) < 0:=by omega
 have g3:¬ (n:Int)≤(i:Int):=by omega
 have g4:¬ (j:Int) < 0:=by omega
 have g5:¬ (n:Int)≤(j:Int):=by omega
 have X0:=SBox.new w 71 #[.int .i64 k,.int .i64 f,.int .i64 t,.int .i64 (i:Int),.int .i64 (j:Int)]
 have B0:=(Below.refl w.heap.size w).alloc (Nat.le_refl _) (.cells #[.int .i64 k,.int .i64 f,.int .i64 t,.int .i64 (i:Int),.int .i64 (j:Int)] 71)
 go_enter Tryz.func39,Tryz.ntmps39
 have c1:(w.alloc (.cells #[.int .i64 k,.int .i64 f,.int .i64 t,.int .i64 (i:Int),.int .i64 (j:Int)] 71)).cell? ⟨w.heap.size,1,none⟩=some (.int .i64 f):=X0.cell 1 _ rfl
 go_wp2_with fail
 refine (D1 _ B0).mono ?_
 rintro e' w1 ⟨rfl,b1⟩
 have B1:=bel_trans B0 b1
 have X1:=X0.below b1
 have c2:w1.cell? ⟨w.heap.size,2,none⟩=some (.int .i64 t):=X1.cell 2 _ rfl
 clear c1
 go_wp2_with fail
 refine (D2 _ B1).mono ?_
 rintro e' w2 ⟨rfl,b2⟩
 have B2:=bel_trans B1 b2
 have X2:=X1.below b2
 clear c2
 have d0:w2.cell? ⟨w.heap.size,0,none⟩=some (.int .i64 k):=X2.cell 0 _ rfl
 have d1:w2.cell? ⟨w.heap.size,1,none⟩=some (.int .i64 f):=X2.cell 1 _ rfl
 have d2:w2.cell? ⟨w.heap.size,2,none⟩=some (.int .i64 t):=X2.cell 2 _ rfl
 have d3:w2.cell? ⟨w.heap.size,3,none⟩=some (.int .i64 (i:Int)):=X2.cell 3 _ rfl
 have d4:w2.cell? ⟨w.heap.size,4,none⟩=some (.int .i64 (j:Int)):=X2.cell 4 _ rfl
 obtain ⟨p0,p1,p2,p3⟩:=HP.out _ B2
 have B3:=B2.alloc B2.size (.cells #[.int .i64 x0,.int .i64 f,.string ⟨x2.toArray⟩,.string ⟨x3.toArray⟩] 49)
 have B4:=B3.alloc B3.size (.cells #[.int .i64 y0,.int .i64 y1,.string ⟨x2.toArray⟩,.string ⟨y3.toArray⟩] 49)
 have X4:=(X2.alloc (.cells #[.int .i64 x0,.int .i64 f,.string ⟨x2.toArray⟩,.string ⟨x3.toArray⟩] 49)).alloc (.cells #[.int .i64 y0,.int .i64 y1,.string ⟨x2.toArray⟩,.string ⟨y3.toArray⟩] 49)
 have Y4:=(SBox.new w2 49 #[.int .i64 x0,.int .i64 f,.string ⟨x2.toArray⟩,.string ⟨x3.toArray⟩]).alloc (.cells #[.int .i64 y0,.int .i64 y1,.string ⟨x2.toArray⟩,.string ⟨y3.toArray⟩] 49)
 obtain ⟨q0,q1,q2,q3⟩:=HR.out _ B3
 have X3:=X2.alloc (.cells #[.int .i64 x0,.int .i64 f,.string ⟨x2.toArray⟩,.string ⟨x3.toArray⟩] 49)
 have Z4:=SBox.new (w2.alloc (.cells #[.int .i64 x0,.int .i64 f,.string ⟨x2.toArray⟩,.string ⟨x3.toArray⟩] 49)) 49 #[.int .i64 y0,.int .i64 y1,.string ⟨x2.toArray⟩,.string ⟨y3.toArray⟩]
 have hz:(w2.alloc (.cells #[.int .i64 x0,.int .i64 f,.string ⟨x2.toArray⟩,.string ⟨x3.toArray⟩] 49)).heap.size=w2.heap.size+1:=Array.size_push ..
 have m4:=X3.cell 4 _ rfl
 have x40:=X4.cell 0 _ rfl
 have x41:=X4.cell 1 _ rfl
 have x42:=X4.cell 2 _ rfl
 have y40:=Y4.cell 0 _ rfl
 have y41:=Y4.cell 1 _ rfl
 have y42:=Y4.cell 2 _ rfl
 have y43:=Y4.cell 3 _ rfl
 have z40:=Z4.cell 0 _ rfl
 have z41:=Z4.cell 1 _ rfl
 have z42:=Z4.cell 2 _ rfl
 have z43:=Z4.cell 3 _ rfl
 go_wp2_with fail
 go_ret
 exact ⟨rfl,B4⟩
end Go.Proofs.YtdlcimfifkhllaaGreat
