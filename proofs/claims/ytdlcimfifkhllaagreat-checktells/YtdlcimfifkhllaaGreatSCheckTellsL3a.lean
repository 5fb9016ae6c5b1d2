/-
  What cartoucheref13.Ahead answers.
-/
import Derived.Test.YtdlcimfifkhllaaGreatSCheckTellsR10All
import Derived.Test.YtdlcimfifkhllaaGreatSCheckTellsR10Steps
namespace Go.Proofs.YtdlcimfifkhllaaGreat
set_option maxRecDepth 100000
open Go.RowKit
set_option linter.unusedVariables false
attribute [local go_sem] ba_size
theorem ahead_no1 (h:List Ev) (level:Int) (o:List Int) (hn:(nodeL h).length≠o.length):aheadB h level o=false:=by
 cases hb:aheadB h level o with
 | false=>rfl
 | true=>exact absurd ((ahead_iff h level o).1 hb).1 hn
theorem ahead_no2 (h:List Ev) (level:Int) (o:List Int) (k:Nat) (hk:k < (nodeL h).length) (hn:plN o ((nodeL h).getD k 0)=none):aheadB h level o=false:=by
 cases hb:aheadB h level o with
 | false=>rfl
 | true =>
   have:=((ahead_iff h level o).1 hb).2.1 ((nodeL h).getD k 0) (by rw [getD_in hk];exact List.getElem_mem hk)
   exact absurd hn ((plN_mem o _).2 this)
theorem ahead_no3 (h:List Ev) (level:Int) (o:List Int) (k:Nat) (hk:k < (stepsL level (edgesL h)).length) (hn:¬ oI (plN o ((stepsL level (edgesL h))[k]).1) < oI (plN o ((stepsL level (edgesL h))[k]).2.1)):aheadB h level o=false:=by
 cases hb:aheadB h level o with
 | false=>rfl
 | true=>exact absurd (((ahead_iff h level o).1 hb).2.2 _ (List.getElem_mem hk)) hn
theorem ahead_yes (h:List Ev) (level:Int) (o:List Int) (h1:(nodeL h).length=o.length) (h2:∀ k,k < (nodeL h).length→plN o ((nodeL h).getD k 0)≠none) (h3:∀ k (hk:k < (stepsL level (edgesL h)).length),oI (plN o ((stepsL level (edgesL h))[k]).1) < oI (plN o ((stepsL level (edgesL h))[k]).2.1)):aheadB h level o=true:=by
 rw [ahead_iff]
 refine ⟨h1,fun x hx=>?_,fun s hs=>?_⟩
 ·obtain ⟨k,hk,rfl⟩:=List.getElem_of_mem hx
  have:=h2 k hk
  rw [getD_in hk] at this
  exact (plN_mem o _).1 this
 ·obtain ⟨k,hk,rfl⟩:=List.getElem_of_mem hs
  exact h3 k hk
theorem steps_bound13 (level:Int) (l:List Ed) (n:Nat) (hn:l.length≤n):(stepsL level l).length≤n*(n+1):=by
 have one:∀ e,(stepOf level l e).length≤l.length+1:=fun e=>by
  unfold stepOf
  rw [List.length_append]
  have h1:(if level=1∨level=2∧e.1≠3 then [one1 e] else []).length≤1:=by split<;>simp
  have h2:(if level=2∧e.1≠3 then l.filterMap fun g=>if g.1=3∧g.2.1=e.2.2.1 then some (two2 e g) else none else []).length≤l.length:=by
   split
   ·exact List.length_filterMap_le _ _
   ·simp
  omega
 have all:∀ m:List Ed,(m.flatMap (stepOf level l)).length≤m.length*(l.length+1):=fun m=>by
  induction m with
  | nil=>simp
  | cons e m ih =>
    rw [List.flatMap_cons,List.length_append,List.length_cons,Nat.succ_mul]
    have:=one e
    omega
 exact Nat.le_trans (all l) (Nat.mul_le_mul hn (by omega))
set_option maxHeartbeats 4000000 in
theorem rahead_any (h:List Ev) (vh vo:Value) (level:Int) (o:List Int) (w:World) (hT:IsEvs w vh h) (hO:IsInts w vo o) (hle:h.length≤300) (hG:∀ x∈h,x.2.2.1.length≤1125899906842624) :
 Calls Tryz.prog 15 #[vh,.int .i64 level,vo] w fun e w'=>e=.returned (.bool (aheadB h level o))∧Below w.heap.size w w':=by
 have be:=edges_few h
 have bs:=steps_bound13 level (edgesL h) 600 (by omega)
 have bn:(nodeL h).length≤301:=nd_len h 301
 have CN:=Lib.hid (fun W (hW:Below w.heap.size w W)=>rnodes_any h vh W (hT.below hW))
 have CA:=Lib.hid (fun W (hW:Below w.heap.size w W)=>rall10_any h vh W (hT.below hW) hle hG)
 have CS:=Lib.hid (fun v W (hE:IsEds W v (edgesL h))=>rsteps_any level (edgesL h) v W hE (by omega))
 have CP:=fun (x:Int) W hW=>rplace13_any vo o x W (hO.below (w':=W) hW)
 have N1:=Lib.hid (ahead_no1 h level o)
 have N2:=Lib.hid (ahead_no2 h level o)
 have N3:=Lib.hid (ahead_no3 h level o)
 have Y:=Lib.hid (ahead_yes h level o)
 obtain ⟨a,cap,rfl,h1,h2,h3,HC⟩:=IsInts.reads hO
 generalize aheadB h level o=r at N1 N2 N3 Y ⊢
 generalize stepsL level (edgesL h)=SL at CS N3 Y bs
 generalize edgesL h=EL at CA CS be
 generalize nodeL h=NL at CN N1 N2 Y bn
 obtain ⟨m,hm⟩:∃ m,o.length=m:=⟨_,rfl⟩
 obtain ⟨nn,hnn⟩:∃ m,NL.length=m:=⟨_,rfl⟩
 obtain ⟨sn,hsn⟩:∃ m,SL.length=m:=⟨_,rfl⟩
 have HNN:=Lib.hid hnn
 have HSN:=Lib.hid hsn
 simp only [hm] at CP N1 Y
 simp only [hnn] at N1 N2 Y bn
 rw [hsn] at bs
 rw [hm] at h1 h3 ⊢
 obtain ⟨ah,ch,rfl,_⟩:=hT.some_at
 obtain ⟨nh,hnh⟩:∃ m,h.length=m:=⟨_,rfl⟩
 rw [hnh] at CN CA ⊢
 clear hT hO hm hnn hsn hnh HC hG
 go_enter Tryz.func15,Tryz.ntmps15
 go_wp2_with fail
 refine (CN.out _ (Below.refl _ _)).mono ?_
 rintro e w1 ⟨vn,rfl,b1,on⟩
 have T_n:IsInts w1 vn NL:=IsRec.own (L:=NL) intV_len (by omega) on (by rw [HNN.out];omega)
 obtain ⟨an,cn,rfl,i1,i2,i3,HCn⟩:=IsInts.reads T_n
 rw [HNN.out] at i1 i3 ⊢
 clear T_n on
 by_cases hmn:nn=m
 ·have z1:((nn:Int) != (m:Int))=false:=by rw [hmn];exact bne_self_eq_false _
  go_wp2_with fail
  go_loopw [8] (fun i wr=>∃ k:Nat,k≤nn∧i=.int .i64 k∧Hid (∀ j,j < k→plN o (NL.getD j 0)≠none)∧Below w1.heap.size w1 wr) (fun i _=>nn - (intOf i).toNat)
  case atStart=>exact ⟨0,Nat.zero_le _,rfl,(fun j hj=>by omega),Below.refl _ _⟩
  case round =>
   obtain ⟨k,hk,rfl,HA,hbw⟩:=hrel
   by_cases hlt:k < nn
   ·have hk1:k < NL.length:=by have:=HNN.out;omega
    have jk:(k:Int) < (nn:Int):=by omega
    obtain ⟨bb,off,rfl,HQ⟩:=HCn.out (by omega)
    have c0:=HQ.out k hk1 _ hbw
    have D0:=CP (NL.getD k 0)
    have N2k:=Lib.hid (N2.out k hlt)
    have HA2:Hid (plN o (NL.getD k 0)≠none→∀ j,j < k+1→plN o (NL.getD j 0)≠none):=fun hh j hj=>by
     rcases Nat.lt_or_ge j k with hj2 | hj2
     ·exact HA.out j hj2
     ·obtain rfl:j=k:=by omega
      exact hh
    obtain ⟨y,hy⟩:∃ y,NL.getD k 0=y:=⟨_,rfl⟩
    rw [hy] at c0 D0 N2k HA2
    obtain ⟨pl,hpl⟩:∃ pl,plN o y=pl:=⟨_,rfl⟩
    rw [hpl] at D0 N2k HA2
    clear hy hpl
    cases pl with
    | none =>
      have HF:Hid (r=false):=N2k.out rfl
      simp only [oI] at D0
      go_wp2_with fail
      refine (D0 _ (bel_trans b1 hbw)).mono ?_
      rintro e w2 ⟨rfl,rfl⟩
      go_wp2_with fail
      go_ret
      exact ⟨by rw [HF.out];rfl,bel_trans b1 hbw⟩
    | some z =>
      have HF:=Lib.hid (HA2.out (by simp))
      simp only [oI] at D0
      have jz:¬ (z:Int) < 0:=by omega
      go_wp2_with fail
      refine (D0 _ (bel_trans b1 hbw)).mono ?_
      rintro e w2 ⟨rfl,rfl⟩
      go_wp2_with fail
      refine ⟨⟨k+1,by omega,by first | go_num | simp,HF,hbw⟩,by simp [intOf];omega⟩
   ·obtain rfl:k=nn:=by omega
    have jk:¬ (k:Int) < (k:Int):=by omega
    have B2:=bel_trans b1 hbw
    go_wp2_with fail
    refine (CA.out _ B2).mono ?_
    rintro e w3 ⟨ve,rfl,b3,oe⟩
    have B3:=bel_trans B2 b3
    have T_e:IsEds w3 ve EL:=IsRec.own (L:=EL) edV_len (by omega) oe (by omega)
    have D1:=CS.out _ _ T_e
    obtain ⟨ae,ce,rfl,_⟩:=T_e.some_at
    clear T_e oe
    go_wp2_with fail
    refine D1.mono ?_
    rintro e w4 ⟨vs,L',rfl,b4,os4,so4⟩
    have B4:=bel_trans B3 b4
    have T_s:IsSts w4 vs SL:=IsSts.own os4 so4 (by rw [so4.1,HSN.out];omega)
    obtain ⟨asl,csl,rfl,p1,p2,p3,HL⟩:=T_s.reads
    rw [HSN.out] at p1 p3 ⊢
    clear T_s os4 so4 D1
    go_wp2_with fail
    go_loopw [10] (fun i wq=>∃ q:Nat,q≤sn∧i=.int .i64 q∧Hid (∀ j (hj:j < SL.length),j < q→oI (plN o (SL[j]).1) < oI (plN o (SL[j]).2.1))∧Below w4.heap.size w4 wq) (fun i _=>sn - (intOf i).toNat)
    case atStart=>exact ⟨0,Nat.zero_le _,rfl,(fun j _ hj=>by omega),Below.refl _ _⟩
    case round =>
     obtain ⟨q,hq,rfl,HB,hbq⟩:=hrel
     by_cases hlq:q < sn
     ·have hq1:q < SL.length:=by have:=HSN.out;omega
      have jq:(q:Int) < (sn:Int):=by omega
      have N3q:=Lib.hid (N3.out q hq1)
      obtain ⟨bs,os,rfl,u,_,C1⟩:=HL.out q hq1
      have HC1:=Lib.hid C1
      have HB2:Hid (oI (plN o (SL[q]'hq1).1) < oI (plN o (SL[q]'hq1).2.1)→∀ j (hj:j < SL.length),j < q+1→oI (plN o (SL[j]).1) < oI (plN o (SL[j]).2.1)):=fun hh j hj hlt=>by
       rcases Nat.lt_or_ge j q with hj2 | hj2
       ·exact HB.out j hj hj2
       ·obtain rfl:j=q:=by omega
        exact hh
      obtain ⟨⟨f,t,E⟩,hx⟩:∃ x,SL[q]'hq1=x:=⟨_,rfl⟩
      rw [hx] at HC1 N3q HB2
      simp only at N3q HB2
      clear hx C1
      have HD:=Lib.hid CP
      obtain ⟨x0,x1,_⟩:=HC1.out _ hbq
      by_cases d:oI (plN o f) < oI (plN o t)
      ·have j1:¬ oI (plN o t)≤oI (plN o f):=by omega
       have HF:=Lib.hid (HB2.out d)
       go_wp2_with fail
       go_quiet (first | (go_at_call 35;exact Calls.quiet_of_same (HD.out _ _ (below_drewN (bel_trans B4 hbq) _))))
       have s8:=below_drewN hbq nq
       go_wp2_with fail
       refine ⟨⟨q+1,by omega,by first | go_num | simp,HF,s8⟩,by simp [intOf];omega⟩
      ·have j1:oI (plN o t)≤oI (plN o f):=by omega
       have HF:Hid (r=false):=by first | exact N3q.out d | exact N3q.out j1
       go_wp2_with fail
       go_quiet (first | (go_at_call 35;exact Calls.quiet_of_same (HD.out _ _ (below_drewN (bel_trans B4 hbq) _))))
       have s8:=below_drewN hbq nq
       go_wp2_with fail
       go_ret
       exact ⟨by rw [HF.out];rfl,bel_trans B4 s8⟩
     ·obtain rfl:q=sn:=by omega
      have jq:¬ (q:Int) < (q:Int):=by omega
      have HF:Hid (r=true):=Y.out hmn (fun i hi=>HA.out i hi) (fun j hj=>HB.out j hj (by rw [← HSN.out];exact hj))
      go_wp2_with fail
      go_ret
      exact ⟨by rw [HF.out];rfl,bel_trans B4 hbq⟩
 ·have z1:((nn:Int) != (m:Int))=true:=bne_iff_ne.2 (by omega)
  have HF:Hid (r=false):=N1.out hmn
  go_wp2_with fail
  go_ret
  exact ⟨by rw [HF.out];rfl,b1⟩
end Go.Proofs.YtdlcimfifkhllaaGreat
