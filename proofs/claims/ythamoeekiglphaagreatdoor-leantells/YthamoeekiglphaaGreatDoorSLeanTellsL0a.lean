/-
  What the laws of stage 15 are asked of, opened. What cartoucheref15.At, Ends, Writer and Commit answer.
-/
import Derived.Test.YthamoeekiglphaaGreatDoorCL0b
import Derived.Lib.Hide
namespace Go.Proofs.YthamoeekiglphaaGreatDoor
set_option maxRecDepth 100000
open Go.ChangeShapes Go.WideShapes Go.ChangeAt Go.RowKit
set_option linter.unusedVariables false
theorem tells_elem {H:Type} {enc:TypeId × Value→H} {W:World} (n:Nat) (cs':List Value) (d':DataW H) (p':List MemPlace) (hl:cs'.length=22) (h:DataW.trod enc Tryz.prog W 0 (fun _=>true) true n 34 cs'=some (d',p')) (hw:(DataW.weights Tryz.prog 34 d').all (·≤ reachBytes)=true) :
 ∃ (c:Ct) (vo vr vp:Value) (root:List UInt8) (b0 b1 b2 e0 e1 e2 e3 e4:Int),cs'=(ctC c vo vr vp).toList++([.string ⟨root.toArray⟩,.int .i64 b0,.int .i64 b1,.int .i64 b2,.int .i64 e0,.int .i64 e1,.int .i64 e2,.int .i64 e3,.int .i64 e4]:List Value)∧CtAt W c vo vr vp:=by
 have hu:=Tryz.underlying34
 obtain ⟨xs,k,_,hx,hcl,hlen,hel⟩:=DataW.trod_struct hu h
 have hlen':xs.length=4:=hlen
 match xs,hlen',cs',hl with
 | [y0,y1,y2,y3],_,[c0,c1,c2,c3,c4,c5,c6,c7,c8,c9,c10,c11,c12,c13,c14,c15,c16,c17,c18,c19,c20,c21],_ =>
   have kC:Tryz.prog.cellsOf 30=13:=by kernel_rfl
   have k9:Tryz.prog.cellsOf 9=1:=by kernel_rfl
   have kB:Tryz.prog.cellsOf 24=3:=by kernel_rfl
   have kE:Tryz.prog.cellsOf 32=5:=by kernel_rfl
   have g0:=hel 0 _ rfl
   have g1:=hel 1 _ rfl
   have g2:=hel 2 _ rfl
   have g3:=hel 3 _ rfl
   simp [kC,k9,kB,kE] at g0 g1 g2 g3
   have hd:=congrArg Prod.fst hx
   simp at hd
   subst hd
   simp only [DataW.weights,hu,List.map_cons,List.map_nil] at hw
   simp only [DataW.weightsEach,List.append_nil,List.all_append,Bool.and_eq_true] at hw
   obtain ⟨c,vo,vr,vp,hc,hA⟩:=ct_elem _ _ y0.1 y0.2 rfl g0 hw.1
   obtain ⟨s1,e1',r1,w1⟩:=DataW.trod_string Tryz.underlying9 g1
   obtain ⟨⟨b,bq,br⟩,hb,gb⟩:=bad_elem13 _ _ y2.1 y2.2 rfl g2
   obtain ⟨⟨x0,x1,x2,x3,x4⟩,he,ge⟩:=ed_elem _ _ y3.1 y3.2 rfl g3
   simp at e1'
   simp [badV] at hb
   simp [edV] at he
   obtain ⟨rfl,rfl,rfl⟩:=hb
   obtain ⟨rfl,rfl,rfl,rfl,rfl⟩:=he
   subst e1'
   refine ⟨c,vo,vr,vp,s1.data.toList,b,bq,br,x0,x1,x2,x3,x4,?_,hA⟩
   rw [← hc]
   rfl
theorem tells_val {H:Type} {enc:TypeId × Value→H} {W:World} {r:Reach} {b0:Nat} {v:Value} {d:DataW H} {p:List MemPlace} (hv:Value.okWide Tryz.prog W r b0 34 v)
 (h:DataW.Trod enc Tryz.prog W 0 (fun _=>true) true 34 v d p) (hw:(DataW.weights Tryz.prog 34 d).all (·≤ reachBytes)=true) :
 ∃ (c:Ct) (vo vr vp:Value) (root:List UInt8) (b0 b1 b2 e0 e1 e2 e3 e4:Int),v=.agg ((ctC c vo vr vp).toList++([.string ⟨root.toArray⟩,.int .i64 b0,.int .i64 b1,.int .i64 b2,.int .i64 e0,.int .i64 e1,.int .i64 e2,.int .i64 e3,.int .i64 e4]:List Value)).toArray∧CtAt W c vo vr vp:=by
 obtain ⟨cs,rfl,hsz⟩:=okWide_struct Tryz.underlying34 hv
 obtain ⟨fuel,hf⟩:=h
 have hc:Tryz.prog.cellsOf 34=22:=by kernel_rfl
 obtain ⟨c,vo,vr,vp,root,b0,b1,b2,e0,e1,e2,e3,e4,hx,h1⟩:=tells_elem fuel cs.toList d p (by rw [Array.length_toList,hsz,hc]) (by simpa [Value.cells] using hf) hw
 refine ⟨c,vo,vr,vp,root,b0,b1,b2,e0,e1,e2,e3,e4,?_,h1⟩
 rw [← hx,Array.toArray_toList]
end Go.Proofs.YthamoeekiglphaaGreatDoor
namespace Go.Proofs.YthamoeekiglphaaGreatDoor
set_option maxRecDepth 100000
open Go.RowKit
set_option linter.unusedVariables false
attribute [local go_sem] ba_size
theorem dec_beqR15 (x y:List UInt8):decide (x=y)=(x==y):=by
 by_cases h:x=y
 ·rw [decide_eq_true h,h];exact (beq_self_eq_true y).symm
 ·rw [decide_eq_false h];exact (beq_eq_false_iff_ne.2 h).symm
set_option maxHeartbeats 4000000 in
theorem rat15_any (l:List Pf) (v:Value) (w:World) (hP:IsPfs w v l) (i:Int) :
 Calls Tryz.prog 44 #[v,.int .i64 i] w fun e w'=>e=.returned (.int .i64 (oI (fp (pAt i) l)))∧Below w.heap.size w w':=by
 obtain ⟨a,cap,rfl,h1,h2,h3,HC⟩:=hP.reads
 obtain ⟨nn,hn⟩:∃ n,l.length=n:=⟨_,rfl⟩
 have HN:=Lib.hid hn
 have HFp:Hid (fp (pAt i) l=fi (fun k=>(pAt i) (pf15 l k)) nn):=by show _=_;rw [← hn];rfl
 rw [hn] at h1 h3 ⊢
 clear hn hP
 go_enter Tryz.func44,Tryz.ntmps44
 go_wp2_with fail
 go_loopw [5] (fun iv wr=>∃ k:Nat,k≤nn∧iv=.int .i64 k∧Hid (∀ j,j < k→(pAt i) (pf15 l j)=false)∧Below w.heap.size w wr) (fun iv _=>nn - (RowKit.intOf iv).toNat)
 case atStart=>exact ⟨0,Nat.zero_le _,rfl,(fun j hj=>absurd hj (by omega)),Below.refl _ _⟩
 case round =>
  obtain ⟨k,hk,rfl,HF,hB⟩:=hrel
  by_cases hlt:k < nn
  ·have j0:(k:Int) < (nn:Int):=by omega
   have jw:IntKind.i64.wrap ((k:Int)+1)=(k:Int)+1:=by rw [IntKind.wrap_i64];omega
   have hkl:k < l.length:=by have:=HN.out;omega
   obtain ⟨bb,off,rfl,u,hu,HQ⟩:=HC.out k hkl
   obtain ⟨c0,c1,c2,c3,c4,c5⟩:=HQ wr hB
   have HI:Hid (pf15 l k=l[k]):=pf15_at l k hkl
   obtain ⟨⟨y0,⟨x0,x1,x2,x3⟩,q⟩,hx⟩:∃ x,l[k]=x:=⟨_,rfl⟩
   rw [hx] at c0 c1 c2 c3 c4 HI
   simp only at c0 c1 c2 c3 c4
   obtain ⟨r1,g1⟩:∃ r,(y0==i)=r:=⟨_,rfl⟩
   have HV:Hid ((pAt i) (pf15 l k)=(r1)):=by show _=_;rw [HI.out,← g1];rfl
   clear hx hu HQ
   cases r1
   all_goals
    first
    | (have HT:Hid ((pAt i) (pf15 l k)=true):=HV.out.trans rfl
       have HE:Hid (fp (pAt i) l=some k):=HFp.out.trans ((fi_some _ _ _).2 ⟨hlt,HT.out,HF.out⟩)
       go_wp2_with fail
       go_ret
       exact ⟨by rw [HE.out];rfl,hB⟩)
    | (have HT:Hid ((pAt i) (pf15 l k)=false):=HV.out.trans rfl
       have HA:Hid (∀ j,j < k+1→(pAt i) (pf15 l j)=false):=fun j hj=>by
        rcases Nat.lt_succ_iff_lt_or_eq.1 hj with h' | rfl
        ·exact HF.out j h'
        ·exact HT.out
       go_wp2_with fail
       go_roundw
       case rel=>exact ⟨k+1,by omega,by first | go_num | simp,HA,hB⟩
       case measure=>simp [RowKit.intOf];omega)
  ·obtain rfl:k=nn:=by omega
   have jq:¬ (k:Int) < (k:Int):=by omega
   have HE:Hid (fp (pAt i) l=none):=HFp.out.trans ((fi_none _ _).2 HF.out)
   go_wp2_with fail
   go_ret
   refine ⟨?_,hB⟩
   rw [HE.out]
   rfl
set_option maxHeartbeats 4000000 in
theorem rends15_any (l:List Pf) (v:Value) (w:World) (hP:IsPfs w v l) (t:Int) :
 Calls Tryz.prog 47 #[v,.int .i64 t] w fun e w'=>e=.returned (.int .i64 (oI (fp (pEnd t) l)))∧Below w.heap.size w w':=by
 obtain ⟨a,cap,rfl,h1,h2,h3,HC⟩:=hP.reads
 obtain ⟨nn,hn⟩:∃ n,l.length=n:=⟨_,rfl⟩
 have HN:=Lib.hid hn
 have HFp:Hid (fp (pEnd t) l=fi (fun k=>(pEnd t) (pf15 l k)) nn):=by show _=_;rw [← hn];rfl
 rw [hn] at h1 h3 ⊢
 clear hn hP
 go_enter Tryz.func47,Tryz.ntmps47
 go_wp2_with fail
 go_loopw [5] (fun iv wr=>∃ k:Nat,k≤nn∧iv=.int .i64 k∧Hid (∀ j,j < k→(pEnd t) (pf15 l j)=false)∧Below w.heap.size w wr) (fun iv _=>nn - (RowKit.intOf iv).toNat)
 case atStart=>exact ⟨0,Nat.zero_le _,rfl,(fun j hj=>absurd hj (by omega)),Below.refl _ _⟩
 case round =>
  obtain ⟨k,hk,rfl,HF,hB⟩:=hrel
  by_cases hlt:k < nn
  ·have j0:(k:Int) < (nn:Int):=by omega
   have jw:IntKind.i64.wrap ((k:Int)+1)=(k:Int)+1:=by rw [IntKind.wrap_i64];omega
   have hkl:k < l.length:=by have:=HN.out;omega
   obtain ⟨bb,off,rfl,u,hu,HQ⟩:=HC.out k hkl
   obtain ⟨c0,c1,c2,c3,c4,c5⟩:=HQ wr hB
   have HI:Hid (pf15 l k=l[k]):=pf15_at l k hkl
   obtain ⟨⟨y0,⟨x0,x1,x2,x3⟩,q⟩,hx⟩:∃ x,l[k]=x:=⟨_,rfl⟩
   rw [hx] at c0 c1 c2 c3 c4 HI
   simp only at c0 c1 c2 c3 c4
   obtain ⟨r1,g1⟩:∃ r,(x1==t)=r:=⟨_,rfl⟩
   obtain ⟨r2,g2⟩:∃ r,(x0==4)=r:=⟨_,rfl⟩
   obtain ⟨r3,g3⟩:∃ r,(x0==5)=r:=⟨_,rfl⟩
   have HV:Hid ((pEnd t) (pf15 l k)=(r1&&(r2 || r3))):=by show _=_;rw [HI.out,← g1,← g2,← g3];rfl
   clear hx hu HQ
   cases r1<;>cases r2<;>cases r3
   all_goals
    first
    | (have HT:Hid ((pEnd t) (pf15 l k)=true):=HV.out.trans rfl
       have HE:Hid (fp (pEnd t) l=some k):=HFp.out.trans ((fi_some _ _ _).2 ⟨hlt,HT.out,HF.out⟩)
       go_wp2_with fail
       go_ret
       exact ⟨by rw [HE.out];rfl,hB⟩)
    | (have HT:Hid ((pEnd t) (pf15 l k)=false):=HV.out.trans rfl
       have HA:Hid (∀ j,j < k+1→(pEnd t) (pf15 l j)=false):=fun j hj=>by
        rcases Nat.lt_succ_iff_lt_or_eq.1 hj with h' | rfl
        ·exact HF.out j h'
        ·exact HT.out
       go_wp2_with fail
       go_roundw
       case rel=>exact ⟨k+1,by omega,by first | go_num | simp,HA,hB⟩
       case measure=>simp [RowKit.intOf];omega)
  ·obtain rfl:k=nn:=by omega
   have jq:¬ (k:Int) < (k:Int):=by omega
   have HE:Hid (fp (pEnd t) l=none):=HFp.out.trans ((fi_none _ _).2 HF.out)
   go_wp2_with fail
   go_ret
   refine ⟨?_,hB⟩
   rw [HE.out]
   rfl
set_option maxHeartbeats 4000000 in
theorem rwrit15_any (l:List Pf) (v:Value) (w:World) (hP:IsPfs w v l) (key val:List UInt8) :
 Calls Tryz.prog 46 #[v,.string ⟨key.toArray⟩,.string ⟨val.toArray⟩] w fun e w'=>e=.returned (.int .i64 (oI (fp (pWr key val) l)))∧Below w.heap.size w w':=by
 obtain ⟨a,cap,rfl,h1,h2,h3,HC⟩:=hP.reads
 obtain ⟨nn,hn⟩:∃ n,l.length=n:=⟨_,rfl⟩
 have HN:=Lib.hid hn
 have HFp:Hid (fp (pWr key val) l=fi (fun k=>(pWr key val) (pf15 l k)) nn):=by show _=_;rw [← hn];rfl
 rw [hn] at h1 h3 ⊢
 clear hn hP
 go_enter Tryz.func46,Tryz.ntmps46
 go_wp2_with fail
 go_loopw [7] (fun iv wr=>∃ k:Nat,k≤nn∧iv=.int .i64 k∧Hid (∀ j,j < k→(pWr key val) (pf15 l j)=false)∧Below w.heap.size w wr) (fun iv _=>nn - (RowKit.intOf iv).toNat)
 case atStart=>exact ⟨0,Nat.zero_le _,rfl,(fun j hj=>absurd hj (by omega)),Below.refl _ _⟩
 case round =>
  obtain ⟨k,hk,rfl,HF,hB⟩:=hrel
  by_cases hlt:k < nn
  ·have j0:(k:Int) < (nn:Int):=by omega
   have jw:IntKind.i64.wrap ((k:Int)+1)=(k:Int)+1:=by rw [IntKind.wrap_i64];omega
   have hkl:k < l.length:=by have:=HN.out;omega
   obtain ⟨bb,off,rfl,u,hu,HQ⟩:=HC.out k hkl
   obtain ⟨c0,c1,c2,c3,c4,c5⟩:=HQ wr hB
   have HI:Hid (pf15 l k=l[k]):=pf15_at l k hkl
   obtain ⟨⟨y0,⟨x0,x1,x2,x3⟩,q⟩,hx⟩:∃ x,l[k]=x:=⟨_,rfl⟩
   rw [hx] at c0 c1 c2 c3 c4 HI
   simp only at c0 c1 c2 c3 c4
   obtain ⟨r1,g1⟩:∃ r,(x0==3)=r:=⟨_,rfl⟩
   obtain ⟨r2,g2⟩:∃ r,(x2==key)=r:=⟨_,rfl⟩
   obtain ⟨r3,g3⟩:∃ r,(x3==val)=r:=⟨_,rfl⟩
   have HV:Hid ((pWr key val) (pf15 l k)=(r1&&r2&&r3)):=by show _=_;rw [HI.out,← g1,← g2,← g3];rw [← dec_beqR15,← dec_beqR15];rfl
   clear hx hu HQ
   cases r1<;>cases r2<;>cases r3
   all_goals
    first
    | (have HT:Hid ((pWr key val) (pf15 l k)=true):=HV.out.trans rfl
       have HE:Hid (fp (pWr key val) l=some k):=HFp.out.trans ((fi_some _ _ _).2 ⟨hlt,HT.out,HF.out⟩)
       go_wp2_with fail
       go_ret
       exact ⟨by rw [HE.out];rfl,hB⟩)
    | (have HT:Hid ((pWr key val) (pf15 l k)=false):=HV.out.trans rfl
       have HA:Hid (∀ j,j < k+1→(pWr key val) (pf15 l j)=false):=fun j hj=>by
        rcases Nat.lt_succ_iff_lt_or_eq.1 hj with h' | rfl
        ·exact HF.out j h'
        ·exact HT.out
       go_wp2_with fail
       go_roundw
       case rel=>exact ⟨k+1,by omega,by first | go_num | simp,HA,hB⟩
       case measure=>simp [RowKit.intOf];omega)
  ·obtain rfl:k=nn:=by omega
   have jq:¬ (k:Int) < (k:Int):=by omega
   have HE:Hid (fp (pWr key val) l=none):=HFp.out.trans ((fi_none _ _).2 HF.out)
   go_wp2_with fail
   go_ret
   refine ⟨?_,hB⟩
   rw [HE.out]
   rfl
theorem endP_none (l:List Pf) (t:Int) (h:fp (pEnd t) l=none):comP l t=-1:=by
 unfold comP endP
 rw [h];rfl
theorem endP_some (l:List Pf) (t:Int) (k:Nat) (h:fp (pEnd t) l=some k):comP l t=if (pf15 l k).2.1.1=4 then (pf15 l k).1 else -1:=by
 unfold comP endP
 rw [h];rfl
set_option maxHeartbeats 4000000 in
theorem rcom15_any (l:List Pf) (v:Value) (w:World) (hP:IsPfs w v l) (t:Int) :
 Calls Tryz.prog 45 #[v,.int .i64 t] w fun e w'=>e=.returned (.int .i64 (comP l t))∧Below w.heap.size w w':=by
 have D:=rends15_any l v w hP t
 have H0:=Lib.hid (endP_none l t)
 have H1:=Lib.hid (endP_some l t)
 have H2:=Lib.hid (fun k=>fp_lt (f:=pEnd t) (l:=l) (k:=k))
 obtain ⟨a,cap,rfl,h1,h2,h3,HC⟩:=hP.reads
 obtain ⟨nn,hn⟩:∃ n,l.length=n:=⟨_,rfl⟩
 have HN:=Lib.hid hn
 rw [hn] at h1 h3 D ⊢
 obtain ⟨cm,hcm⟩:∃ z,comP l t=z:=⟨_,rfl⟩
 rw [hcm]
 clear hn hP
 cases ho:fp (pEnd t) l with
 | none =>
   have HE:Hid (cm=-1):=hcm.symm.trans (H0.out ho)
   rw [ho] at D
   have HO:Hid (oI none=-1):=rfl
   rw [HO.out] at D
   clear ho hcm H0 H1 H2
   go_enter Tryz.func45,Tryz.ntmps45
   go_wp2_with fail
   refine D.mono ?_
   rintro e w1 ⟨rfl,b1⟩
   go_wp2_with fail
   go_ret
   exact ⟨by rw [HE.out];rfl,b1⟩
 | some k =>
   have hk:=H2.out k ho
   have HE:Hid (cm=if (pf15 l k).2.1.1=4 then (pf15 l k).1 else -1):=hcm.symm.trans (H1.out k ho)
   rw [ho] at D
   have HO:Hid (oI (some k)=(k:Int)):=rfl
   rw [HO.out] at D
   have j0:(k:Int) < (nn:Int):=by have:=HN.out;omega
   have j1:decide ((k:Int) < 0)=false:=decide_eq_false (by omega)
   obtain ⟨bb,off,rfl,u,hu,HQ⟩:=HC.out k hk
   have HI:Hid (pf15 l k=l[k]):=pf15_at l k hk
   have HQ1:=Lib.hid HQ
   obtain ⟨⟨y0,⟨x0,x1,x2,x3⟩,q⟩,hx⟩:∃ x,l[k]=x:=⟨_,rfl⟩
   rw [hx] at HI HQ1
   have HE2:Hid (cm=if x0=4 then y0 else -1):=by show _=_;rw [HE.out,HI.out]
   clear ho hcm H0 H1 H2 hu HQ hx HE HI
   by_cases d:x0=4
   ·have e1:(x0==4)=true:=by rw [d];rfl
    have HE3:Hid (cm=y0):=HE2.out.trans (if_pos d)
    clear d HE2
    go_enter Tryz.func45,Tryz.ntmps45
    go_wp2_with fail
    refine D.mono ?_
    rintro e w1 ⟨rfl,b1⟩
    obtain ⟨c0,c1,c2,c3,c4,c5⟩:=HQ1.out w1 b1
    go_wp2_with fail
    go_ret
    exact ⟨by rw [HE3.out];rfl,b1⟩
   ·have e1:(x0==4)=false:=beq_eq_false_iff_ne.2 d
    have HE3:Hid (cm=-1):=HE2.out.trans (if_neg d)
    clear d HE2
    go_enter Tryz.func45,Tryz.ntmps45
    go_wp2_with fail
    refine D.mono ?_
    rintro e w1 ⟨rfl,b1⟩
    obtain ⟨c0,c1,c2,c3,c4,c5⟩:=HQ1.out w1 b1
    go_wp2_with fail
    go_ret
    exact ⟨by rw [HE3.out];rfl,b1⟩
end Go.Proofs.YthamoeekiglphaaGreatDoor
