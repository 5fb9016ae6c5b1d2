/-
  What cartoucheref12.Flat answers. What cartoucheref01.Less answers. What cartoucheref08.Versions answers. What cartoucheref10.Nodes answers. What cartoucheref11
-/
import Derived.Test.YtdlcimfifkhllaaGreatCL0d
import Derived.Deep.RegionHeld3
namespace Go.Proofs.YtdlcimfifkhllaaGreat
set_option maxRecDepth 100000
open Go.RowKit
set_option linter.unusedVariables false
attribute [local go_sem] ba_size
set_option maxHeartbeats 4000000 in
theorem rflat_any (vl:Value) (l:List Stp) (w:World) (hT:IsSts w vl l) (hF:(flatL l).length≤1000000000000) :
 Calls Tryz.prog 46 #[vl] w fun e w'=>EdRow 71 w (flatL l) e w':=by
 obtain ⟨i0,hi,hz0,hz1,hz2⟩:=info_parts ed_info
 obtain ⟨a,cap,rfl,h1,h2,h3,HC⟩:=hT.reads
 obtain ⟨n,hn⟩:∃ n,l.length=n:=⟨_,rfl⟩
 have HN:Hid (l.length=n):=hn
 have HF:Hid ((flatL l).length≤1000000000000):=hF
 rw [hn] at h1 h3 ⊢
 clear hn hT hF
 go_enter Tryz.func46,Tryz.ntmps46
 go_wp2_with fail
 go_loopw [3,4] (fun r iv wr=>∃ (k c:Nat),k≤n∧iv=.int .i64 k∧Hid ((flatL (l.take k)).length=c)∧Below w.heap.size w wr∧wr.ownsRow w.heap.size 71 5 r c (recV edV (flatL (l.take k)))) (fun _ iv _=>n - (intOf iv).toNat)
 case atStart=>exact ⟨0,0,Nat.zero_le _,rfl,rfl,Below.refl _ _,World.ownsRow_nil _ _ _ _⟩
 case round =>
  obtain ⟨wA,rfl⟩:∃ wA,wA=wr:=⟨_,rfl⟩
  obtain ⟨k,c,hk,rfl,HLc,hbw,hrow⟩:=hrel
  by_cases hlt:k < n
  ·have hk1:Hid (k < l.length):=by show k < _;rw [HN.out];exact hlt
   have j0:(k:Int) < (n:Int):=by omega
   have jwk:IntKind.i64.wrap ((k:Int)+1)=(k:Int)+1:=by rw [IntKind.wrap_i64];omega
   obtain ⟨bb,off,rfl,u,hu,HQ⟩:=HC.out k hk1.out
   have HQQ:Hid (∀ V,Below w.heap.size w V→V.cell? ⟨bb,off+k*3+2,none⟩=some u):=fun V hV=>(HQ V hV).2.2
   have HNx:Hid (flatL (l.take (k+1))=flatL (l.take k)++(l[k]'hk1.out).2.2):=flat_next l k hk1.out
   obtain ⟨E,hE⟩:∃ E,(l[k]'hk1.out).2.2=E:=⟨_,rfl⟩
   rw [hE] at hu HNx
   clear hE HQ
   obtain ⟨ae,ce,rfl,e1,e2,e3,HE⟩:=IsEds.reads hu
   obtain ⟨m,hm⟩:∃ m,E.length=m:=⟨_,rfl⟩
   have HM:Hid (E.length=m):=hm
   rw [hm] at e1 e3 HQQ
   have HB:Hid (c+m≤1000000000000):=by
    have q:=flat_take l (k+1)
    rw [HNx.out,List.length_append,HLc.out,hm] at q
    have:=HF.out
    show _≤_
    omega
   clear hm hu
   have c0:=HQQ.out _ hbw
   go_wp2_with fail
   go_loopw [3,5] (fun r iv wr=>∃ (q:Nat),q≤m∧iv=.int .i64 q∧Below w.heap.size w wr∧wr.ownsRow w.heap.size 71 5 r (c+q) (recV edV (flatL (l.take k)++E.take q))) (fun _ iv _=>m - (intOf iv).toNat)
   case atStart=>exact ⟨0,Nat.zero_le _,rfl,hbw,by rw [List.take_zero,List.append_nil];exact hrow⟩
   case round =>
    obtain ⟨q,hq,rfl,hbq,hrq⟩:=hrel
    have c1:=HQQ.out _ hbq
    by_cases hlq:q < m
    ·have j1:(q:Int) < (m:Int):=by omega
     have jwq:IntKind.i64.wrap ((q:Int)+1)=(q:Int)+1:=by rw [IntKind.wrap_i64];omega
     have hq1:q < E.length:=by have:=HM.out;omega
     obtain ⟨be,oe,rfl,HEE⟩:=HE.out (by omega)
     obtain ⟨x0,x1,x2,x3,x4⟩:=HEE.out q hq1 _ hbq
     have HY:Hid (E.take (q+1)=E.take q++[E[q]]):=List.take_succ_eq_append_getElem hq1
     obtain ⟨⟨e0,e1',e2',e3',e4⟩,hx⟩:∃ x,E[q]=x:=⟨_,rfl⟩
     rw [hx] at x0 x1 x2 x3 x4 HY
     simp only at x0 x1 x2 x3 x4
     clear hx
     have hbb:=HB.out
     have hal:=hrq.alloc (.cells #[.int .i64 e0,.int .i64 e1',.int .i64 e2',.int .i64 e3',.int .i64 e4] 71)
     go_wp2_with (at_builtin;refine wpList_append_own_at _ rfl _ _ 26 rfl w.heap.size 71 i0 (.agg #[.int .i64 0,.int .i64 0,.int .i64 0,.int .i64 0,.int .i64 0]) 5 40 Tryz.underlying26 hi hz0 hz1 hz2 rfl (by decide) _ _ _ rfl hal ⟨wr.heap.size,0,none⟩ 1 1 [.int .i64 e0,.int .i64 e1',.int .i64 e2',.int .i64 e3',.int .i64 e4] rfl rfl ?a1 ?a2 ?a3 ?a4 ?a5 ?_)
     case a1=>intro j u hj;match j,hj with
      | 0,hj=>simp at hj;subst hj;first | (simp [Addr.add];done) | exact cell_new7 (by simp) rfl
      | 1,hj=>simp at hj;subst hj;first | (simp [Addr.add];done) | exact cell_new7 (by simp) rfl
      | 2,hj=>simp at hj;subst hj;first | (simp [Addr.add];done) | exact cell_new7 (by simp) rfl
      | 3,hj=>simp at hj;subst hj;first | (simp [Addr.add];done) | exact cell_new7 (by simp) rfl
      | 4,hj=>simp at hj;subst hj;first | (simp [Addr.add];done) | exact cell_new7 (by simp) rfl
     case a2=>intro u hu;simp at hu;rcases hu with rfl | rfl | rfl | rfl | rfl<;>rfl
     case a3=>unfold maxLen;omega
     case a4=>omega
     case a5=>have:=hbq.size;simp;omega
     intro r3 w3 hown3 hg3 _ hat3
     have B3:Below w.heap.size w w3:=(hbq.alloc hbq.size _).grown hg3 (by have:=hbq.size;simp;omega) (fun j hj=>(hrq.lt j hj).1)
     go_wp2_with fail
     refine ⟨⟨q+1,by omega,by first | go_num | simp,B3,by rw [HY.out,← List.append_assoc,recE12_snoc];exact hown3⟩,by simp [intOf];omega⟩
    ·obtain rfl:q=m:=by omega
     have j1:¬ (q:Int) < (q:Int):=by omega
     have HT:Hid (E.take q=E):=by show _=_;rw [← HM.out,List.take_length]
     go_wp2_with fail
     refine ⟨⟨k+1,c+q,by omega,by first | go_num | simp,by show _=_;rw [HNx.out,List.length_append,HLc.out,HM.out],hbq,by rw [HNx.out,← HT.out];exact hrq⟩,by simp [intOf];omega⟩
  ·obtain rfl:k=n:=by omega
   have jq:¬ (k:Int) < (k:Int):=by omega
   have HT:Hid (l.take k=l):=by show _=_;rw [← HN.out,List.take_length]
   go_wp2_with fail
   go_ret
   refine ⟨_,rfl,hbw,?_⟩
   rw [HT.out] at hrow HLc
   rw [HLc.out]
   exact hrow
attribute [local go_sem] ba_size ba_get
set_option maxHeartbeats 2000000 in
theorem rless_any (a b:List UInt8) (ha:a.length≤9223372036854775807) (hb:b.length≤9223372036854775807) (w:World) :
 Calls Tryz.prog 97 #[.string ⟨a.toArray⟩,.string ⟨b.toArray⟩] w fun e w'=>e=.returned (.bool (lessB a b))∧Below w.heap.size w w':=by
 obtain ⟨O,hO⟩:∃ O,lessB a b=O:=⟨_,rfl⟩
 rw [hO]
 have H0:Hid (lessB (a.drop 0) (b.drop 0)=O):=hO
 clear hO
 go_enter Tryz.func97,Tryz.ntmps97
 go_wp2_with fail
 go_loopw [5] (fun i wr=>∃ k:Nat,k≤a.length∧k≤b.length∧i=.int .i64 k∧Hid (lessB (a.drop k) (b.drop k)=O)∧Below w.heap.size w wr) (fun i _=>a.length - (intOf i).toNat)
 case atStart=>exact ⟨0,Nat.zero_le _,Nat.zero_le _,rfl,H0,Below.refl _ _⟩
 case round =>
  obtain ⟨k,hka,hkb,rfl,HK,hbw⟩:=hrel
  by_cases hla:k < a.length
  ·by_cases hlb:k < b.length
   ·have HD:Hid (lessB (a[k]::a.drop (k+1)) (b[k]::b.drop (k+1))=O):=by
     have:=HK.out
     rw [List.drop_eq_getElem_cons hla,List.drop_eq_getElem_cons hlb] at this
     exact this
    obtain ⟨x,hx⟩:∃ x,a[k]=x:=⟨_,rfl⟩
    obtain ⟨y,hy⟩:∃ y,b[k]=y:=⟨_,rfl⟩
    rw [hx,hy] at HD
    have i1:(k:Int) < (a.length:Int):=by omega
    have i2:(k:Int) < (b.length:Int):=by omega
    by_cases d:x=y
    ·have HD':Hid (lessB (a.drop (k+1)) (b.drop (k+1))=O):=by
      have:=HD.out
      rw [lessB_same x y _ _ d] at this
      exact this
     have e1:((x.toNat:Int) != (y.toNat:Int))=false:=by rw [d];simp
     go_wp2_with fail
     go_quiet (fail)
     go_wp2_with fail
     refine ⟨?relA,?meaA⟩
     case relA=>exact ⟨k+1,by omega,by omega,by first | go_num | simp,HD',below_drewN hbw _⟩
     case meaA=>simp [intOf];omega
    ·have HR:Hid (O=decide (x.toNat < y.toNat)):=by
      have:=HD.out
      rw [lessB_diff x y _ _ d] at this
      exact this.symm
     have e1:((x.toNat:Int) != (y.toNat:Int))=true:=bne_iff_ne.2 (fun hh=>d (UInt8.toNat_inj.1 (by omega)))
     go_wp2_with fail
     go_quiet (fail)
     go_wp2_with fail
     go_quiet (fail)
     go_wp2_with fail
     go_ret
     exact ⟨by rw [HR.out];rfl,below_drewN (below_drewN hbw _) _⟩
   ·have HR:Hid (O=decide (a.length < b.length)):=by
     have:=HK.out
     have hb0:b.drop k=[]:=List.drop_eq_nil_of_le (by omega)
     rw [List.drop_eq_getElem_cons hla,hb0,lessB_cons_nil] at this
     show O=_
     rw [← this,decide_eq_false (by omega)]
    have i1:(k:Int) < (a.length:Int):=by omega
    have i2:¬ (k:Int) < (b.length:Int):=by omega
    go_wp2_with fail
    go_ret
    exact ⟨by rw [HR.out];rfl,hbw⟩
  ·have HR:Hid (O=decide (a.length < b.length)):=by
    have:=HK.out
    have ha0:a.drop k=[]:=List.drop_eq_nil_of_le (by omega)
    rw [ha0,lessB_nil,List.length_drop] at this
    show O=_
    rw [← this,decide_eq_decide]
    omega
   have i1:¬ (k:Int) < (a.length:Int):=by omega
   go_wp2_with fail
   go_ret
   exact ⟨by rw [HR.out];rfl,hbw⟩
end Go.Proofs.YtdlcimfifkhllaaGreat
namespace Go.Proofs.YtdlcimfifkhllaaGreat
set_option maxRecDepth 100000
open Go.RowKit
set_option linter.unusedVariables false
attribute [local go_sem] ba_size
theorem vers_next (h:List Ev) (key:List UInt8) (k:Nat):(List.range (k+1)).filterMap (verOf h key)=(List.range k).filterMap (verOf h key)++(verOf h key k).toList:=by
 rw [List.range_succ,List.filterMap_append]
 cases hl:verOf h key k with
 | none=>simp [hl]
 | some x=>simp [hl]
set_option maxHeartbeats 2000000 in
theorem rvers_any (h:List Ev) (v:Value) (w:World) (hT:IsEvs w v h) (hle:h.length≤300) (key:List UInt8) :
 Calls Tryz.prog 67 #[v,.string ⟨key.toArray⟩] w fun e w'=>InRow w ((versL h key).map Int.ofNat) e w':=by
 obtain ⟨i0,hi,hz0,hz1,hz2⟩:=info_parts int_info
 have C1:=fun (t:Int) W hW=>rend_any h v W (hT.below (w':=W) hW) t h.length (Nat.le_refl _)
 have C2:=fun (t:Int) (i:Int) W hW=>rlast_any h v W (hT.below (w':=W) hW) t key i
 obtain ⟨a,cap,rfl,h1,h2,h3,HC⟩:=hT.reads
 obtain ⟨n,hn⟩:∃ n,h.length=n:=⟨_,rfl⟩
 have HN:Hid (h.length=n):=hn
 rw [hn] at h1 h3 hle C1
 simp only [hn] at C2
 rw [hn]
 clear hT hn
 go_enter Tryz.func67,Tryz.ntmps67
 go_wp2_with fail
 go_loopw [5,6] (fun r i wr=>∃ (k c:Nat),k≤n∧c≤k∧i=.int .i64 k∧Hid (((List.range k).filterMap (verOf h key)).length=c)∧Below w.heap.size w wr∧wr.ownsRow w.heap.size 3 1 r c (recV intV (((List.range k).filterMap (verOf h key)).map Int.ofNat))) (fun _ i _=>n - (intOf i).toNat)
 case atStart=>exact ⟨0,0,Nat.zero_le _,Nat.zero_le _,rfl,rfl,Below.refl _ _,World.ownsRow_nil _ _ _ _⟩
 case round =>
  obtain ⟨k,c,hk,hc,rfl,HL,hbw,hrow⟩:=hrel
  by_cases hlt:k < n
  ·have hk1:k < h.length:=by have:=HN.out;omega
   obtain ⟨bb,off,rfl,HQ⟩:=HC.out (by omega)
   obtain ⟨c0,c1,c2,c3⟩:=HQ.out k hk1 _ hbw
   obtain ⟨⟨x0,x1,x2,x3⟩,hx⟩:∃ x,ev h k=x:=⟨_,rfl⟩
   have HX:Hid (ev h k=(x0,x1,x2,x3)):=hx
   rw [hx] at c0 c1 c2 c3
   simp only at c0 c1 c2 c3
   clear hx
   have D1:=C1 x1
   have D2:=C2 x1 (k:Int)
   rw [last_upto h x1 key k (by omega)] at D2
   by_cases d:x0=4
   ·have e4:(x0 != 4)=false:=by rw [d];rfl
    by_cases d5:endL h x1 n=some k
    ·rw [d5] at D1
     simp only [oI] at D1
     have HW:Hid (verOf h key k=lastN h x1 key k):=by
      show _=_
      unfold verOf
      rw [HX.out,if_pos ⟨d,by rw [HN.out];exact d5⟩]
     rcases hl:lastN h x1 key k with _ | q
     ·rw [hl] at D2
      simp only [oI] at D2
      have HA:Hid (verOf h key k=none):=by show _=_;rw [HW.out,hl]
      have HV:Hid (recV intV (((List.range (k+1)).filterMap (verOf h key)).map Int.ofNat)=recV intV (((List.range k).filterMap (verOf h key)).map Int.ofNat)):=by show _=_;rw [vers_next,HA.out,Option.toList_none,List.append_nil]
      have HL':Hid (((List.range (k+1)).filterMap (verOf h key)).length=c):=by show _=_;rw [vers_next,HA.out,Option.toList_none,List.append_nil,HL.out]
      clear hl d5
      go_wp2_with fail
      refine (D1 _ hbw).mono ?_
      rintro e w1 ⟨rfl,b1⟩
      have B1:=bel_trans hbw b1
      have O1:=owns_below hrow b1
      have m1:=(HQ.out k hk1 _ B1).2.1
      rw [HX.out] at m1
      go_wp2_with fail
      refine (D2 _ B1).mono ?_
      rintro e w2 ⟨rfl,b2⟩
      have B2:=bel_trans B1 b2
      have O2:=owns_below O1 b2
      go_wp2_with fail
      refine ⟨?relA,?meaA⟩
      case relA=>exact ⟨k+1,c,by omega,by omega,by first | go_num | simp,HL',B2,by rw [HV.out];exact O2⟩
      case meaA=>simp [intOf];omega
     ·rw [hl] at D2
      simp only [oI] at D2
      have jq:(0:Int)≤(q:Int):=by omega
      have HA:Hid (verOf h key k=some q):=by show _=_;rw [HW.out,hl]
      have HV:Hid (recV intV (((List.range (k+1)).filterMap (verOf h key)).map Int.ofNat)=recV intV (((List.range k).filterMap (verOf h key)).map Int.ofNat)++[.int .i64 (q:Int)]):=by
       show _=_
       rw [vers_next,HA.out,List.map_append,recV_append]
       rfl
      have HL':Hid (((List.range (k+1)).filterMap (verOf h key)).length=c+1):=by show _=_;rw [vers_next,HA.out,List.length_append,HL.out];rfl
      obtain ⟨DR,hDR⟩:∃ d,recV intV (((List.range k).filterMap (verOf h key)).map Int.ofNat)=d:=⟨_,rfl⟩
      rw [hDR] at hrow HV
      clear hDR hl d5
      go_wp2_with fail
      refine (D1 _ hbw).mono ?_
      rintro e w1 ⟨rfl,b1⟩
      have B1:=bel_trans hbw b1
      have O1:=owns_below hrow b1
      have m1:=(HQ.out k hk1 _ B1).2.1
      rw [HX.out] at m1
      go_wp2_with fail
      refine (D2 _ B1).mono ?_
      rintro e w2 ⟨rfl,b2⟩
      have B2:=bel_trans B1 b2
      have O2:=owns_below O1 b2
      have sz:=B2.size
      go_wp2_with (at_builtin;refine wpList_append_own _ rfl _ _ 23 rfl w.heap.size 3 i0 (.int .i64 0) 1 8 Tryz.underlying23 hi hz0 hz1 hz2 rfl (by decide) _ _ _ rfl (O2.alloc _) ⟨w2.heap.size,0,none⟩ 1 1 [.int .i64 (q:Int)] rfl rfl ?d1 ?d2 ?d3 ?d4 ?d5 ?_)
      try
       case d1 =>
        intro j u hj
        match j,hj with
        | 0,hj=>simp at hj;subst hj;first | (simp [Addr.add];done) | exact cell_new7 (by simp) rfl
      case d2=>first | (intro u hu;simp at hu;subst hu;rfl) | rfl
      case d3=>unfold maxLen;omega
      case d4=>omega
      case d5=>simp;omega
      intro v' w3 own3 g3 _
      have B3:Below w.heap.size w w3:=(B2.alloc B2.size _).grown g3 (by have:=B2.size;simp at this ⊢;omega) (fun j hj=>(hrow.lt j hj).1)
      go_wp2_with fail
      refine ⟨?relB,?meaB⟩
      case relB=>exact ⟨k+1,c+1,by omega,by omega,by first | go_num | simp,HL',B3,by rw [HV.out];exact own3⟩
      case meaB=>simp [intOf];omega
    ·have hj:oI (endL h x1 n)≠(k:Int):=by
      intro hh
      rcases he:endL h x1 n with _ | e
      ·rw [he] at hh;simp only [oI] at hh;omega
      ·rw [he] at hh;simp only [oI] at hh;exact d5 (by rw [he];congr 1;omega)
     obtain ⟨z,hz⟩:∃ z,oI (endL h x1 n)=z:=⟨_,rfl⟩
     rw [hz] at D1 hj
     have ez:(z != (k:Int))=true:=bne_iff_ne.2 hj
     have HA:Hid (verOf h key k=none):=by show _=_;unfold verOf;rw [HX.out,if_neg (fun hh=>d5 (by have:=hh.2;rw [HN.out] at this;exact this))]
     have HV:Hid (recV intV (((List.range (k+1)).filterMap (verOf h key)).map Int.ofNat)=recV intV (((List.range k).filterMap (verOf h key)).map Int.ofNat)):=by show _=_;rw [vers_next,HA.out,Option.toList_none,List.append_nil]
     have HL':Hid (((List.range (k+1)).filterMap (verOf h key)).length=c):=by show _=_;rw [vers_next,HA.out,Option.toList_none,List.append_nil,HL.out]
     clear hz d5 hj
     go_wp2_with fail
     refine (D1 _ hbw).mono ?_
     rintro e w1 ⟨rfl,b1⟩
     have B1:=bel_trans hbw b1
     have O1:=owns_below hrow b1
     go_wp2_with fail
     refine ⟨?relC,?meaC⟩
     case relC=>exact ⟨k+1,c,by omega,by omega,by first | go_num | simp,HL',B1,by rw [HV.out];exact O1⟩
     case meaC=>simp [intOf];omega
   ·have e4:(x0 != 4)=true:=bne_iff_ne.2 d
    have HA:Hid (verOf h key k=none):=by show _=_;unfold verOf;rw [HX.out,if_neg (fun hh=>d hh.1)]
    have HV:Hid (recV intV (((List.range (k+1)).filterMap (verOf h key)).map Int.ofNat)=recV intV (((List.range k).filterMap (verOf h key)).map Int.ofNat)):=by show _=_;rw [vers_next,HA.out,Option.toList_none,List.append_nil]
    have HL':Hid (((List.range (k+1)).filterMap (verOf h key)).length=c):=by show _=_;rw [vers_next,HA.out,Option.toList_none,List.append_nil,HL.out]
    go_wp2_with fail
    refine ⟨?relD,?meaD⟩
    case relD=>exact ⟨k+1,c,by omega,by omega,by first | go_num | simp,HL',hbw,by rw [HV.out];exact hrow⟩
    case meaD=>simp [intOf];omega
  ·obtain rfl:k=n:=by omega
   have HE:Hid (versL h key=(List.range k).filterMap (verOf h key)):=by show versL h key=_;unfold versL;rw [HN.out]
   go_wp2_with fail
   go_ret
   refine ⟨_,rfl,hbw,?_⟩
   rw [HE.out,List.length_map,HL.out]
   exact hrow
theorem recN_snoc (L:List Int) (x:Int):recV intV (L++[x])=recV intV L++[.int .i64 x]:=by rw [recV_append];rfl
set_option maxHeartbeats 4000000 in
theorem rnodes_any (h:List Ev) (v:Value) (w:World) (hT:IsEvs w v h) :
 Calls Tryz.prog 21 #[v] w fun e w'=>InRow w (nodeL h) e w':=by
 obtain ⟨i0,hi,hz0,hz1,hz2⟩:=info_parts int_info
 have C1:=fun (t:Int) W hW=>rcomm_any h v W (hT.below (w':=W) hW) t
 obtain ⟨a,cap,rfl,h1,h2,h3,HC⟩:=hT.reads
 obtain ⟨n,hn⟩:∃ n,h.length=n:=⟨_,rfl⟩
 have HN:Hid (h.length=n):=hn
 simp only [hn] at C1
 rw [hn] at h1 h3 ⊢
 clear hT hn
 go_enter Tryz.func21,Tryz.ntmps21
 go_wp2_with fail
 go_loopw [3,4] (fun r i wr=>∃ (k c:Nat),k≤301∧c≤k∧i=.int .i64 ((k:Int) - 1)∧Hid ((ndL h k).length=c)∧Below w.heap.size w wr∧wr.ownsRow w.heap.size 3 1 r c (recV intV (ndL h k))) (fun _ i _=>(301 - (intOf i+1)).toNat)
 case atStart=>exact ⟨0,0,by omega,by omega,rfl,rfl,Below.refl _ _,World.ownsRow_nil _ _ _ _⟩
 case round =>
  obtain ⟨k,c,hk,hc,rfl,HL,hbw,hrow⟩:=hrel
  obtain ⟨wo,rfl⟩:∃ x,x=wr:=⟨_,rfl⟩
  by_cases hlt:k < 301
  ·have j0:(k:Int) - 1 < 300:=by omega
   obtain ⟨t,ht⟩:∃ t,(k:Int) - 1=t:=⟨_,rfl⟩
   have HT:Hid ((k:Int) - 1=t):=ht
   rw [ht] at j0 ⊢
   clear ht
   have ht1:-1≤t∧t < 300:=by have:=HT.out;omega
   go_wp2_with fail
   go_loopw [5,6] (fun hs i wq=>∃ q:Nat,q≤n∧i=.int .i64 q∧hs=.bool (fstL h t q).isSome∧Below wo.heap.size wo wq) (fun _ i _=>n - (intOf i).toNat)
   case atStart=>exact ⟨0,Nat.zero_le _,rfl,rfl,Below.refl _ _⟩
   case round =>
    obtain ⟨q,hq,rfl,rfl,hbq⟩:=hrel
    by_cases hqn:q < n
    ·have hq1:q < h.length:=by have:=HN.out;omega
     obtain ⟨bb,off,rfl,HQ⟩:=HC.out (by have:=HN.out;omega)
     have c1:=(HQ.out q hq1 _ (bel_trans hbw hbq)).2.1
     obtain ⟨x1,hx⟩:∃ x,(ev h q).2.1=x:=⟨_,rfl⟩
     have HX:Hid ((ev h q).2.1=x1):=hx
     rw [hx] at c1
     clear hx
     cases hf:fstL h t q with
     | some f =>
       have HF:Hid (fstL h t (q+1)=some f):=fstL_old h t q f hf
       clear hf
       simp only [Option.isSome_some]
       go_wp2_with fail
       refine ⟨⟨q+1,by omega,by first | go_num | simp,by rw [HF.out];rfl,hbq⟩,by simp [intOf];omega⟩
     | none =>
       simp only [Option.isSome_none]
       by_cases d:x1=t
       ·have e1:(x1==t)=true:=by rw [d];exact beq_self_eq_true _
        have HF:Hid (fstL h t (q+1)=some q):=fstL_new h t q hf (by rw [HX.out];exact d)
        clear hf d
        go_wp2_with fail
        refine ⟨⟨q+1,by omega,by first | go_num | simp,by rw [HF.out];rfl,hbq⟩,by simp [intOf];omega⟩
       ·have e1:(x1==t)=false:=beq_eq_false_iff_ne.2 d
        have HF:Hid (fstL h t (q+1)=none):=fstL_skip h t q hf (by rw [HX.out];exact d)
        clear hf d
        go_wp2_with fail
        refine ⟨⟨q+1,by omega,by first | go_num | simp,by rw [HF.out];rfl,hbq⟩,by simp [intOf];omega⟩
    ·obtain rfl:q=n:=by omega
     have B1:=bel_trans hbw hbq
     have hrowq:=owns_below hrow hbq
     have HK:Hid (ndOf h k=if commL h t=none then none else some t):=by show _=_;unfold ndOf;rw [HT.out]
     cases hf:fstL h t q with
     | none =>
       have HE:Hid (ndL h (k+1)=ndL h k):=by
        show _=_
        rw [nd_next,HK.out,if_pos (comm_has h t (by rw [HN.out];exact hf))]
        simp
       clear hf
       simp only [Option.isSome_none]
       go_wp2_with fail
       refine ⟨⟨k+1,c,by omega,by omega,by have:=HT.out;simp;omega,by rw [HE.out];exact HL.out,B1,by rw [HE.out];exact hrowq⟩,by have:=HT.out;simp [intOf];omega⟩
     | some f =>
       simp only [Option.isSome_some]
       go_wp2_with fail
       refine (C1 t _ B1).mono ?_
       rintro e w1 ⟨rfl,b1⟩
       have B2:=bel_trans B1 b1
       have hrow1:=owns_below hrowq b1
       clear hf
       rcases hcm:commL h t with _ | e
       ·have HE:Hid (ndL h (k+1)=ndL h k):=by
         show _=_
         rw [nd_next,HK.out,if_pos hcm]
         simp
        simp only [oI]
        clear hcm
        go_wp2_with fail
        refine ⟨⟨k+1,c,by omega,by omega,by have:=HT.out;simp;omega,by rw [HE.out];exact HL.out,B2,by rw [HE.out];exact hrow1⟩,by have:=HT.out;simp [intOf];omega⟩
       ·have HE:Hid (ndL h (k+1)=ndL h k++[t]):=by
         show _=_
         rw [nd_next,HK.out,if_neg (by rw [hcm];simp)]
         rfl
        simp only [oI]
        clear hcm
        have je:(0:Int)≤(e:Int):=by omega
        have hsz1:=B2.size
        go_wp2_with (at_builtin;refine wpList_append_own _ rfl _ _ 23 rfl w.heap.size 3 i0 (.int .i64 0) 1 8 Tryz.underlying23 hi hz0 hz1 hz2 rfl (by decide) _ _ _ rfl (hrow1.alloc _) ⟨w1.heap.size,0,none⟩ 1 1 [.int .i64 t] rfl rfl ?a1 ?a2 ?a3 ?a4 ?a5 ?_)
        case a1=>intro j u hj;match j,hj with
         | 0,hj=>simp at hj;subst hj;simp [Addr.add]
        case a2=>intro u hu;simp at hu;subst hu;rfl
        case a3=>unfold maxLen;omega
        case a4=>omega
        case a5=>simp;omega
        intro v' w2 hown2 hg2 _
        have B3:Below w.heap.size w w2:=(B2.alloc B2.size _).grown hg2 (by simp;omega) (fun j hj=>(hrow1.lt j hj).1)
        go_wp2_with fail
        refine ⟨⟨k+1,c+1,by omega,by omega,by have:=HT.out;simp;omega,by rw [HE.out,List.length_append,HL.out];rfl,B3,by rw [HE.out,recN_snoc];exact hown2⟩,by have:=HT.out;simp [intOf];omega⟩
  ·obtain rfl:k=301:=by omega
   go_wp2_with fail
   go_ret
   refine ⟨_,rfl,hbw,?_⟩
   show World.ownsRow _ _ _ _ _ (ndL h 301).length (recV intV (ndL h 301))
   rw [HL.out]
   exact hrow
set_option linter.unusedSimpArgs false
set_option maxHeartbeats 4000000 in
theorem rways_any (vl:Value) (l:List Stp) (to:Int) (many:Nat) (w:World) (hT:IsSts w vl l) (hl9:l.length≤1000000000) (hm9:many≤1000000000) :
 Calls Tryz.prog 75 #[vl,.int .i64 to,.int .i64 (many:Int)] w fun e w'=>WaysRes w l to many e w':=by
 obtain ⟨i0,hi,hz0,hz1,hz2⟩:=info_parts int_info
 obtain ⟨j0,ji,jz0,jz1,jz2⟩:=info_parts sl_info
 obtain ⟨al,cl,rfl,p1,p2,p3,HL⟩:=hT.reads
 obtain ⟨m,hm⟩:∃ m,l.length=m:=⟨_,rfl⟩
 have HM:Hid (l.length=m):=hm
 rw [hm] at p1 p3 hl9 ⊢
 clear hT hm
 have O1:=own_lit w 3 1 1 [.int .i64 to] rfl (by omega)
 have O2:=own_lit (w.alloc (.cells #[.int .i64 to] 3)) 23 1 1 [.slice (some ⟨w.heap.size,0,none⟩) 1 1] rfl (by omega)
 rw [World.size_alloc] at O2
 have O3:=O1.alloc (.cells #[.slice (some ⟨w.heap.size,0,none⟩) 1 1] 23)
 have B0:Below w.heap.size w ((w.alloc (.cells #[.int .i64 to] 3)).alloc (.cells #[.slice (some ⟨w.heap.size,0,none⟩) 1 1] 23)):=((Below.refl w.heap.size w).alloc (Nat.le_refl _) _).alloc (by simp) _
 have HW0:Hid (WaysOk w ((w.alloc (.cells #[.int .i64 to] 3)).alloc (.cells #[.slice (some ⟨w.heap.size,0,none⟩) 1 1] 23)) l to [.slice (some ⟨w.heap.size,0,none⟩) 1 1]):=fun n u hu=>by
  rcases Nat.eq_zero_or_pos n with rfl | h0
  ·simp only [List.getElem?_cons_zero,Option.some.injEq] at hu
   subst hu
   exact ⟨[to],O3,by simp,fun x=>by rw [wayB];simp⟩
  ·rw [List.getElem?_eq_none (by simp;omega)] at hu
   cases hu
 obtain ⟨wf,hwf⟩:∃ wf,(w.alloc (.cells #[.int .i64 to] 3)).alloc (.cells #[.slice (some ⟨w.heap.size,0,none⟩) 1 1] 23)=wf:=⟨_,rfl⟩
 go_enter Tryz.func75,Tryz.ntmps75
 go_wp2_with fail
 have O4:=owns_low O2 (show w.heap.size≤w.heap.size+1 by omega)
 rw [hwf] at HW0 B0
 have O5:wf.ownsRow w.heap.size 23 1 (.slice (some ⟨w.heap.size+1,0,none⟩) 1 1) 1 [.slice (some ⟨w.heap.size,0,none⟩) 1 1]:=by rw [← hwf];exact O4
 clear hwf O1 O2 O3 O4
 go_loopw [7,8] (fun ov nv wr=>∃ (n:Nat) (Vs:List Value),n≤many∧nv=.int .i64 n∧Hid (Vs.length=n+1)∧Hid (WaysOk w wr l to Vs)∧Below w.heap.size w wr∧wr.ownsRow w.heap.size 23 1 ov (n+1) Vs) (fun _ nv _=>many - (intOf nv).toNat)
 case atStart=>exact ⟨0,[.slice (some ⟨w.heap.size,0,none⟩) 1 1],Nat.zero_le _,rfl,(show _=_ from rfl),HW0,B0,O5⟩
 case round =>
  obtain ⟨n,Vs,hn,rfl,HVn,HW,hbw,hrow⟩:=hrel
  obtain ⟨wo,rfl⟩:∃ wo,wo=wr:=⟨_,rfl⟩
  by_cases hlt:n < many
  ·have jn:(n:Int) < (many:Int):=by omega
   obtain ⟨g,cp,hu7,hcp,hcp2⟩:∃ g c,u7=.slice (some ⟨g,0,none⟩) (n+1) c∧n+1≤c∧c≤9223372036854775807:=by
    rcases hrow.2 with ⟨_,h⟩ | ⟨g,cap,cur,rfl,_,_,h2,h3,_⟩
    ·omega
    ·exact ⟨g,cap,rfl,h2,by unfold maxLen at h3;omega⟩
   obtain ⟨nn,hnn⟩:∃ nn,n+1=nn:=⟨_,rfl⟩
   have HNN:Hid (n+1=nn):=hnn
   have hnlt:n < nn:=by omega
   have hnnb:nn≤1000000001:=by omega
   have jn2:(n:Int) < (nn:Int):=by omega
   rw [hnn] at hu7 hcp hrow
   subst hu7
   obtain ⟨un,hun⟩:∃ u,Vs[n]?=some u:=⟨_,List.getElem?_eq_getElem (by have:=HVn.out;omega)⟩
   obtain ⟨N,hN1,hN2,hN3⟩:=HW.out n un hun
   have HN3:=Lib.hid hN3
   have TN:IsInts wo un N:=IsRec.own intV_len (by omega) hN1 (by have:=HM.out;omega)
   have CN:=fun (x:Int) W (hW:Below wo.heap.size wo W)=>rhas_any un N x W (TN.below hW)
   have Hun:Hid (∀ V,Below wo.heap.size wo V→V.cell? ⟨g,n,none⟩=some un):=fun V hV=>by
    have c:=(owns_below hrow hV).cellAt n (by omega)
    rw [c];exact hun
   clear hN1 hN3 TN hnn
   go_wp2_with fail
   go_loopw [9,10] (fun xv zv wq=>∃ (z:Nat) (X:List Int),z≤m∧zv=.int .i64 z∧X.length≤z∧Hid (∀ x,x∈X↔nextP l to n z x)∧Below wo.heap.size wo wq∧wq.ownsRow wo.heap.size 3 1 xv X.length (recV intV X)) (fun _ zv _=>m - (intOf zv).toNat)
   case atStart=>exact ⟨0,[],Nat.zero_le _,rfl,by simp,(fun x=>⟨fun h=>(by cases h),fun ⟨j,_,h,_⟩=>absurd h (by omega)⟩),Below.refl _ _,World.ownsRow_nil _ _ _ _⟩
   case round =>
    obtain ⟨z,X,hz,rfl,hX,HX,hbq,xrow⟩:=hrel
    obtain ⟨wq,rfl⟩:∃ wq,wq=wr:=⟨_,rfl⟩
    by_cases hlz:z < m
    ·have hzl:z < l.length:=by have:=HM.out;omega
     have jz:(z:Int) < (m:Int):=by omega
     obtain ⟨bs,os,rfl,uu,_,C1⟩:=HL.out z hzl
     obtain ⟨⟨fr,t,E⟩,hy⟩:∃ y,l[z]=y:=⟨_,rfl⟩
     have HNo:Hid (wayB l to n t=false→∀ x,nextP l to n (z+1) x↔nextP l to n z x):=fun h x=>nextP_no l to n z x hzl (by rw [hy];exact h)
     have HYe:Hid (wayB l to n t=true→∀ x,nextP l to n (z+1) x↔x=fr∨nextP l to n z x):=fun h x=>by have e:=nextP_yes l to n z x hzl (by rw [hy];exact h);rw [hy] at e;exact e
     rw [hy] at C1
     simp only at C1
     have HC1:=Lib.hid C1
     clear hy C1
     have TX:IsInts wq u9 X:=IsRec.own intV_len (by omega) xrow (by omega)
     have CX:=fun W (hW:Below wq.heap.size wq W)=>rhas_any u9 X fr W (TX.below hW)
     have CO:=fun W (hW:Below wo.heap.size wo W)=>CN t W hW
     have HOn:Hid (decide (t∈N)=wayB l to n t):=by
      show _=_
      cases hw:wayB l to n t with
      | true=>exact decide_eq_true ((HN3.out t).2 hw)
      | false=>exact decide_eq_false (fun h=>by rw [(HN3.out t).1 h] at hw;cases hw)
     rw [HOn.out] at CO
     obtain ⟨on,hon⟩:∃ b,wayB l to n t=b:=⟨_,rfl⟩
     rw [hon] at CO HNo HYe
     clear hon HOn
     obtain ⟨x0,x1,_⟩:=HC1.out _ (bel_trans hbw hbq)
     have xu:=Hun.out _ hbq
     have S0:(fun V=>Below wq.heap.size wq V∧V.cell? ⟨g,n,none⟩=some un∧V.cell? ⟨bs,os+z*3+1,none⟩=some (.int .i64 t)) wq.drew:=⟨(Below.refl _ _).drew,xu,x1⟩
     have keepS:∀ V V':World,(fun V=>Below wq.heap.size wq V∧V.cell? ⟨g,n,none⟩=some un∧V.cell? ⟨bs,os+z*3+1,none⟩=some (.int .i64 t)) V→Below V.heap.size V V'→(fun V=>Below wq.heap.size wq V∧V.cell? ⟨g,n,none⟩=some un∧V.cell? ⟨bs,os+z*3+1,none⟩=some (.int .i64 t)) V':=fun V V' ⟨a,b,c⟩ d=>⟨bel_trans a d,cell_bel d b,cell_bel d c⟩
     go_wp2_with fail
     go_region_held3 (fun V=>Below wq.heap.size wq V∧V.cell? ⟨g,n,none⟩=some un∧V.cell? ⟨bs,os+z*3+1,none⟩=some (.int .i64 t)) (first | exact S0 | exact keepS _ _ (by assumption) (by assumption)) (first | (go_at_call 72;refine (CO _ (bel_trans hbq (And.left (by assumption)))).mono ?_;rintro e' w' ⟨rfl,b8⟩))
     rename_i hHeld8
     have s8:=hHeld8.1
     clear S0 keepS hHeld8 x0 x1 xu
     obtain ⟨y0,y1,_⟩:=HC1.out _ (bel_trans hbw (bel_trans hbq s8))
     go_wp2_with fail
     refine (CX _ s8).mono ?_
     rintro e w2 ⟨rfl,b2⟩
     have s9:=bel_trans s8 b2
     have B9:=bel_trans hbq s9
     have xrow9:=owns_below xrow s9
     obtain ⟨q0,q1,_⟩:=HC1.out _ (bel_trans hbw B9)
     cases on with
     | false =>
       have HX2:Hid (∀ x,x∈X↔nextP l to n (z+1) x):=fun x=>(HX.out x).trans (HNo.out rfl x).symm
       obtain ⟨inb,hinb⟩:∃ b,decide (fr∈X)=b:=⟨_,rfl⟩
       simp only [hinb]
       clear hinb
       go_wp2_with fail
       refine ⟨⟨z+1,X,by omega,by first | go_num | simp,by omega,HX2,B9,xrow9⟩,by simp [intOf];omega⟩
     | true =>
       by_cases hin:fr∈X
       ·have HX2:Hid (∀ x,x∈X↔nextP l to n (z+1) x):=fun x=>by
         rw [HYe.out rfl x,← HX.out x]
         exact ⟨.inr,fun h=>h.elim (fun e=>by rw [e];exact hin) id⟩
        simp only [decide_eq_true hin]
        clear hin
        go_wp2_with fail
        refine ⟨⟨z+1,X,by omega,by first | go_num | simp,by omega,HX2,B9,xrow9⟩,by simp [intOf];omega⟩
       ·have HX2:Hid (∀ x,x∈X++[fr]↔nextP l to n (z+1) x):=fun x=>by
         rw [HYe.out rfl x,← HX.out x,List.mem_append,List.mem_singleton]
         exact Or.comm
        simp only [decide_eq_false hin]
        clear hin
        have sz:=B9.size
        go_wp2_with (at_builtin;refine wpList_append_own _ rfl _ _ 23 rfl wo.heap.size 3 i0 (.int .i64 0) 1 8 Tryz.underlying23 hi hz0 hz1 hz2 rfl (by decide) _ _ _ rfl (xrow9.alloc _) ⟨w2.heap.size,0,none⟩ 1 1 [.int .i64 fr] rfl rfl ?d1 ?d2 ?d3 ?d4 ?d5 ?_)
        try
         case d1=>intro j u hj;match j,hj with
          | 0,hj=>simp at hj;subst hj;first | (simp [Addr.add];done) | exact cell_new7 (by simp) rfl
        try
         case d2=>intro u hu;simp at hu;subst hu;rfl
        try
         case d2=>exact rfl
        try
         case d3=>unfold maxLen;omega
        try
         case d4=>omega
        try
         case d5=>first | omega | (simp;done) | (simp;omega)
        intro v3 w3 own3 g3 _
        have B3:Below wo.heap.size wo w3:=(B9.alloc sz _).grown g3 (by simp;omega) (fun j hj=>(xrow9.lt j hj).1)
        go_wp2_with fail
        refine ⟨⟨z+1,X++[fr],by omega,by first | go_num | simp,by simp;omega,HX2,B3,by rw [List.length_append,recV_append];exact own3⟩,by simp [intOf];omega⟩
    ·obtain rfl:z=m:=by omega
     have jz:¬ (z:Int) < (z:Int):=by omega
     have HX3:Hid (∀ x,x∈X↔wayB l to (n+1) x=true):=fun x=>by rw [HX.out x,← HM.out];exact nextP_all l to n x
     obtain ⟨ax,cx,hu9⟩:∃ a c,u9=.slice a X.length c:=by
      rcases xrow.2 with ⟨rfl,h⟩ | ⟨g,cap,cur,rfl,_⟩
      ·exact ⟨_,_,by rw [h]⟩
      ·exact ⟨_,_,rfl⟩
     subst hu9
     have BQ:=bel_trans hbw hbq
     have sz:=BQ.size
     have orow:=owns_below hrow hbq
     have xlow:=owns_low xrow hbw.size
     have HW2:=HW.out.below hbq
     go_wp2_with (at_builtin;refine wpList_append_own _ rfl _ _ 109 rfl w.heap.size 23 j0 (.slice none 0 0) 1 24 Tryz.underlying109 ji jz0 jz1 jz2 rfl (by decide) _ _ _ rfl (orow.alloc _) ⟨wq.heap.size,0,none⟩ 1 1 [.slice ax X.length cx] rfl rfl ?k1 ?k2 ?k3 ?k4 ?k5 ?_)
     try
      case k1=>intro j u hj;match j,hj with
       | 0,hj=>simp at hj;subst hj;first | (simp [Addr.add];done) | exact cell_new7 (by simp) rfl
     try
      case k2 =>
       intro u hu
       simp at hu
       subst hu
       rfl
     try
      case k2=>exact rfl
     try
      case k3=>unfold maxLen;omega
     try
      case k4=>omega
     try
      case k5=>first | omega | (simp;done) | (simp;omega)
     intro v3 w3 own3 g3 _
     have B3:Below w.heap.size w w3:=(BQ.alloc sz _).grown g3 (by simp;omega) (fun j hj=>(orow.lt j hj).1)
     have bA:=(Below.refl wq.heap.size wq).alloc (Nat.le_refl _) (.cells #[.slice ax X.length cx] 23)
     have HW3:=(HW2.below bA).grown (orow.alloc (.cells #[.slice ax X.length cx] 23)) (by decide) g3
     have X3:=apart11_kept (xlow.alloc (.cells #[.slice ax X.length cx] 23)) g3 (apart_types orow xlow (by decide))
     have HW4:Hid (WaysOk w w3 l to (Vs++[.slice ax X.length cx])):=HW3.push (.slice ax X.length cx) X X3 (by have:=HM.out;omega) (fun x=>by rw [HVn.out];exact HX3.out x)
     go_wp2_with fail
     refine ⟨⟨n+1,Vs++[.slice ax X.length cx],by omega,by first | go_num | simp,by show _=_;rw [List.length_append,HVn.out];rfl,HW4,B3,by rw [HNN.out];exact own3⟩,by simp [intOf];omega⟩
  ·obtain rfl:n=many:=by omega
   have jn:¬ (n:Int) < (n:Int):=by omega
   go_wp2_with fail
   go_ret
   exact ⟨_,Vs,rfl,hbw,HVn.out,hrow,HW.out⟩
end Go.Proofs.YtdlcimfifkhllaaGreat
namespace Go.Proofs.YtdlcimfifkhllaaGreat
set_option maxRecDepth 100000
open Go.RowKit
set_option linter.unusedVariables false
def iV (K:List Int):List Value:=K.map (Value.int .i64)
theorem iV_rec (K:List Int):recV intV K=iV K:=by
 unfold recV iV
 induction K with
 | nil=>rfl
 | cons x r ih=>rw [List.flatMap_cons,ih];rfl
theorem iV_length (K:List Int):(iV K).length=K.length:=by unfold iV;rw [List.length_map]
theorem iV_app (K M:List Int):iV (K++M)=iV K++iV M:=by unfold iV;rw [List.map_append]
theorem iV_at (K:List Int) (i:Nat) (h:i < K.length):(iV K)[i]?=some (.int .i64 K[i]):=by unfold iV;simp [h]
theorem isrc_take {W:World} {B g cp:Nat} {K:List Int} (h:W.ownsRow B 3 1 (.slice (some ⟨g,0,none⟩) K.length cp) K.length (iV K)) (q:Nat):∀ j u,(iV (K.take q))[j]?=some u→W.cell? ((⟨g,0,none⟩:Addr).add j)=some u:=by
 intro j u hu
 have hj:=(List.getElem?_eq_some_iff.1 hu).1
 rw [iV_length,List.length_take] at hj
 have c:=h.cellAt j (by omega)
 have e:(iV (K.take q))[j]?=(iV K)[j]?:=by unfold iV;rw [List.map_take,List.getElem?_take_of_lt (by omega)]
 rw [e] at hu
 have a:((⟨g,0,none⟩:Addr).add j)=⟨g,j,none⟩:=by simp [Addr.add];intro h;exact h.symm
 rw [a,c]
 exact hu
theorem isrc_drop {W:World} {B g cp:Nat} {K:List Int} (h:W.ownsRow B 3 1 (.slice (some ⟨g,0,none⟩) K.length cp) K.length (iV K)) (q:Nat):∀ j u,(iV (K.drop q))[j]?=some u→W.cell? ((⟨g,q,none⟩:Addr).add j)=some u:=by
 intro j u hu
 have hj:=(List.getElem?_eq_some_iff.1 hu).1
 rw [iV_length,List.length_drop] at hj
 have c:=h.cellAt (q+j) (by omega)
 have e:(iV (K.drop q))[j]?=(iV K)[q+j]?:=by unfold iV;rw [List.map_drop,List.getElem?_drop]
 rw [e] at hu
 have a:((⟨g,q,none⟩:Addr).add j)=⟨g,q+j,none⟩:=by simp [Addr.add]
 rw [a,c]
 exact hu
theorem own_slice11 {W:World} {B e k n:Nat} {v:Value} {xs:List Value} (h:W.ownsRow B e k v n xs) (h0:0 < n):∃ g c,v=.slice (some ⟨g,0,none⟩) n c∧n≤c∧c≤9223372036854775807:=by
 rcases h.2 with ⟨_,h⟩ | ⟨g,cap,cur,rfl,_,_,h2,h3,_⟩
 ·omega
 ·exact ⟨g,cap,rfl,h2,by unfold maxLen at h3;omega⟩
def IRow (w W:World) (r:Value) (K:List Int):Prop:=(r=.slice none 0 0∧K=[])∨(0 < K.length∧W.ownsRow w.heap.size 3 1 r K.length (iV K))
theorem IRow.ints {w W:World} {r:Value} {K:List Int} (h:IRow w W r K) (hn:K.length≤140737488351232):IsInts W r K:=by
 rcases h with ⟨rfl,rfl⟩ | ⟨_,h⟩
 ·exact IsRec.nil 1 intV W
 ·rw [← iV_rec] at h
  exact IsRec.own intV_len (by omega) h hn
section
variable {α:Type}
theorem startsF_snoc (s:Sp α):∀ (l:List (Sp α)) (acc:List Int),startsF acc (l++[s])=insI s.1 (startsF acc l)
 | [],acc=>rfl
 | x::l,acc=>by rw [List.cons_append,startsF,startsF,startsF_snoc s l]
end
theorem insI_in (k:Int):∀ K:List Int,K.Pairwise (·< ·)→k∈K→insI k K=K
 | [],_,h=>by cases h
 | x::K,hs,h=>by
   rw [insI]
   by_cases h1:x < k
   ·rw [if_pos h1]
    rcases List.mem_cons.1 h with rfl | h
    ·omega
    ·rw [insI_in k K (List.pairwise_cons.1 hs).2 h]
   ·rw [if_neg h1]
    rcases List.mem_cons.1 h with rfl | h
    ·rw [if_pos rfl]
    ·have:=(List.pairwise_cons.1 hs).1 k h
     omega
theorem insI_split (k:Int):∀ (K:List Int) (q:Nat) (hq:q≤K.length) (hl:∀ j (h:j < q),K[j]'(by omega) < k) (hn:∀ h:q < K.length,¬ K[q]'h < k) (hm:k ∉ K),insI k K=K.take q++k::K.drop q
 | [],q,hq,hl,hn,hm=>by
   obtain rfl:q=0:=by simpa using hq
   rfl
 | x::K,0,hq,hl,hn,hm=>by
   rw [insI]
   have:=hn (by simp)
   simp only [List.getElem_cons_zero] at this
   rw [if_neg this,if_neg (fun e=>hm (by rw [e];exact List.mem_cons_self ..))]
   rfl
 | x::K,q+1,hq,hl,hn,hm=>by
   rw [insI]
   have h0:=hl 0 (by omega)
   simp only [List.getElem_cons_zero] at h0
   rw [if_pos h0,insI_split k K q (by simpa using hq) (fun j h=>by have:=hl (j+1) (by omega);simpa using this) (fun h=>by have:=hn (by simpa using h);simpa using this) (fun h=>hm (List.mem_cons_of_mem _ h))]
   rfl
theorem insI_len (k:Int):∀ K:List Int,(insI k K).length≤K.length+1
 | []=>by simp [insI]
 | x::K=>by
   rw [insI]
   have:=insI_len k K
   split
   ·simp;omega
   ·split<;>simp
section
variable {α:Type}
theorem startsF_len:∀ (l:List (Sp α)) (acc:List Int),(startsF acc l).length≤acc.length+l.length
 | [],acc=>by rw [startsF];simp
 | s::l,acc=>by
   rw [startsF,List.length_cons]
   have h1:=startsF_len l (insI s.1 acc)
   have h2:=insI_len s.1 acc
   omega
theorem starts_len (l:List (Sp α)):(startsL l).length≤l.length:=by have:=startsF_len l [];simpa [startsL] using this
end
end Go.Proofs.YtdlcimfifkhllaaGreat
