/-
  What cartoucheref12.Flat answers. What cartoucheref01.Less answers. What cartoucheref08.Versions answers. What cartoucheref10.Nodes answers. What cartoucheref11
-/
import Derived.Test.YtdlcimfifkhllaaGreatCL0d
import Derived.Deep.RegionHeld3
namespace Go.Proofs.YtdlcimfifkhllaaGreat
set_option maxRecDepth 100000
open Go.RowKit
set_option linter.unusedVariables false
attribute [local go_sem] ba_size ba_get
set_option maxHeartbeats 2000000 in
theorem rless_any (a b:List UInt8) (ha:a.length≤9223372036854775807) (hb:b.length≤9223372036854775807) (w:World) :
 Calls Tryz.prog 97 #[.string ⟨a.toArray⟩,.string ⟨b.toArray⟩] w fun e w'=>e=.returned (.bool (lessB a b))∧Below w.heap.size w w':=by
 obtain ⟨O,hO⟩:∃ O,lessB a b=O:=⟨_,rfl⟩
 rw [hO]
 have H0:Hid (lessB (a.drop 0) (b.drop 0)=O):=hO
 clear hO
 go_enter Tryz.func97,Tryz.ntmps97
 go_wp2_with fail
 go_loopw [5] (fun i wr=>∃ k:Nat,k≤a.length∧k≤b.length∧i=.int .i64 k∧Hid (lessB (a.drop k) (b.drop k)=O)∧Below w.heap.size w wr) (fun i _=>a.length - (intOf i).toNat)
 case atStart=>exact ⟨0,Nat.zero_le _,Nat.zero_le _,rfl,H0,Below.refl _ _⟩
 case round =>
  obtain ⟨k,hka,hkb,rfl,HK,hbw⟩:=hrel
  by_cases hla:k < a.length
  ·by_cases hlb:k < b.length
   ·have HD:Hid (lessB (a[k]::a.drop (k+1)) (b[k]::b.drop (k+1))=O):=by
     have:=HK.out
     rw [List.drop_eq_getElem_cons hla,List.drop_eq_getElem_cons hlb] at this
     exact this
    obtain ⟨x,hx⟩:∃ x,a[k]=x:=⟨_,rfl⟩
    obtain ⟨y,hy⟩:∃ y,b[k]=y:=⟨_,rfl⟩
    rw [hx,hy] at HD
    have i1:(k:Int) < (a.length:Int):=by omega
    have i2:(k:Int) < (b.length:Int):=by omega
    by_cases d:x=y
    ·have HD':Hid (lessB (a.drop (k+1)) (b.drop (k+1))=O):=by
      have:=HD.out
      rw [lessB_same x y _ _ d] at this
      exact this
     have e1:((x.toNat:Int) != (y.toNat:Int))=false:=by rw [d];simp
     go_wp2_with fail
     go_quiet (fail)
     go_wp2_with fail
     refine ⟨?relA,?meaA⟩
     case relA=>exact ⟨k+1,by omega,by omega,by first | go_num | simp,HD',below_drewN hbw _⟩
     case meaA=>simp [intOf];omega
    ·have HR:Hid (O=decide (x.toNat < y.toNat)):=by
      have:=HD.out
      rw [lessB_diff x y _ _ d] at this
      exact this.symm
     have e1:((x.toNat:Int) != (y.toNat:Int))=true:=bne_iff_ne.2 (fun hh=>d (UInt8.toNat_inj.1 (by omega)))
     go_wp2_with fail
     go_quiet (fail)
     go_wp2_with fail
     go_quiet (fail)
     go_wp2_with fail
     go_ret
     exact ⟨by rw [HR.out];rfl,below_drewN (below_drewN hbw _) _⟩
   ·have HR:Hid (O=decide (a.length < b.length)):=by
     have:=HK.out
     have hb0:b.drop k=[]:=List.drop_eq_nil_of_le (by omega)
     rw [List.drop_eq_getElem_cons hla,hb0,lessB_cons_nil] at this
     show O=_
     rw [← this,decide_eq_false (by omega)]
    have i1:(k:Int) < (a.length:Int):=by omega
    have i2:¬ (k:Int) < (b.length:Int):=by omega
    go_wp2_with fail
    go_ret
    exact ⟨by rw [HR.out];rfl,hbw⟩
  ·have HR:Hid (O=decide (a.length < b.length)):=by
    have:=HK.out
    have ha0:a.drop k=[]:=List.drop_eq_nil_of_le (by omega)
    rw [ha0,lessB_nil,List.length_drop] at this
    show O=_
    rw [← this,decide_eq_decide]
    omega
   have i1:¬ (k:Int) < (a.length:Int):=by omega
   go_wp2_with fail
   go_ret
   exact ⟨by rw [HR.out];rfl,hbw⟩
end Go.Proofs.YtdlcimfifkhllaaGreat
namespace Go.Proofs.YtdlcimfifkhllaaGreat
set_option maxRecDepth 100000
open Go.RowKit
set_option linter.unusedVariables false
attribute [local go_sem] ba_size
theorem vers_next (h:List Ev) (key:List UInt8) (k:Nat):(List.range (k+1)).filterMap (verOf h key)=(List.range k).filterMap (verOf h key)++(verOf h key k).toList:=by
 rw [List.range_succ,List.filterMap_append]
 cases hl:verOf h key k with
 | none=>simp [hl]
 | some x=>simp [hl]
set_option maxHeartbeats 2000000 in
theorem rvers_any (h:List Ev) (v:Value) (w:World) (hT:IsEvs w v h) (hle:h.length≤300) (key:List UInt8) :
 Calls Tryz.prog 67 #[v,.string ⟨key.toArray⟩] w fun e w'=>InRow w ((versL h key).map Int.ofNat) e w':=by
 obtain ⟨i0,hi,hz0,hz1,hz2⟩:=info_parts int_info
 have C1:=fun (t:Int) W hW=>rend_any h v W (hT.below (w':=W) hW) t h.length (Nat.le_refl _)
 have C2:=fun (t:Int) (i:Int) W hW=>rlast_any h v W (hT.below (w':=W) hW) t key i
 obtain ⟨a,cap,rfl,h1,h2,h3,HC⟩:=hT.reads
 obtain ⟨n,hn⟩:∃ n,h.length=n:=⟨_,rfl⟩
 have HN:Hid (h.length=n):=hn
 rw [hn] at h1 h3 hle C1
 simp only [hn] at C2
 rw [hn]
 clear hT hn
 go_enter Tryz.func67,Tryz.ntmps67
 go_wp2_with fail
 go_loopw [5,6] (fun r i wr=>∃ (k c:Nat),k≤n∧c≤k∧i=.int .i64 k∧Hid (((List.range k).filterMap (verOf h key)).length=c)∧Below w.heap.size w wr∧wr.ownsRow w.heap.size 3 1 r c (recV intV (((List.range k).filterMap (verOf h key)).map Int.ofNat))) (fun _ i _=>n - (intOf i).toNat)
 case atStart=>exact ⟨0,0,Nat.zero_le _,Nat.zero_le _,rfl,rfl,Below.refl _ _,World.ownsRow_nil _ _ _ _⟩
 case round =>
  obtain ⟨k,c,hk,hc,rfl,HL,hbw,hrow⟩:=hrel
  by_cases hlt:k < n
  ·have hk1:k < h.length:=by have:=HN.out;omega
   obtain ⟨bb,off,rfl,HQ⟩:=HC.out (by omega)
   obtain ⟨c0,c1,c2,c3⟩:=HQ.out k hk1 _ hbw
   obtain ⟨⟨x0,x1,x2,x3⟩,hx⟩:∃ x,ev h k=x:=⟨_,rfl⟩
   have HX:Hid (ev h k=(x0,x1,x2,x3)):=hx
   rw [hx] at c0 c1 c2 c3
   simp only at c0 c1 c2 c3
   clear hx
   have D1:=C1 x1
   have D2:=C2 x1 (k:Int)
   rw [last_upto h x1 key k (by omega)] at D2
   by_cases d:x0=4
   ·have e4:(x0 != 4)=false:=by rw [d];rfl
    by_cases d5:endL h x1 n=some k
    ·rw [d5] at D1
     simp only [oI] at D1
     have HW:Hid (verOf h key k=lastN h x1 key k):=by
      show _=_
      unfold verOf
      rw [HX.out,if_pos ⟨d,by rw [HN.out];exact d5⟩]
     rcases hl:lastN h x1 key k with _ | q
     ·rw [hl] at D2
      simp only [oI] at D2
      have HA:Hid (verOf h key k=none):=by show _=_;rw [HW.out,hl]
      have HV:Hid (recV intV (((List.range (k+1)).filterMap (verOf h key)).map Int.ofNat)=recV intV (((List.range k).filterMap (verOf h key)).map Int.ofNat)):=by show _=_;rw [vers_next,HA.out,Option.toList_none,List.append_nil]
      have HL':Hid (((List.range (k+1)).filterMap (verOf h key)).length=c):=by show _=_;rw [vers_next,HA.out,Option.toList_none,List.append_nil,HL.out]
      clear hl d5
      go_wp2_with fail
      refine (D1 _ hbw).mono ?_
      rintro e w1 ⟨rfl,b1⟩
      have B1:=bel_trans hbw b1
      have O1:=owns_below hrow b1
      have m1:=(HQ.out k hk1 _ B1).2.1
      rw [HX.out] at m1
      go_wp2_with fail
      refine (D2 _ B1).mono ?_
      rintro e w2 ⟨rfl,b2⟩
      have B2:=bel_trans B1 b2
      have O2:=owns_below O1 b2
      go_wp2_with fail
      refine ⟨?relA,?meaA⟩
      case relA=>exact ⟨k+1,c,by omega,by omega,by first | go_num | simp,HL',B2,by rw [HV.out];exact O2⟩
      case meaA=>simp [intOf];omega
     ·rw [hl] at D2
      simp only [oI] at D2
      have jq:(0:Int)≤(q:Int):=by omega
      have HA:Hid (verOf h key k=some q):=by show _=_;rw [HW.out,hl]
      have HV:Hid (recV intV (((List.range (k+1)).filterMap (verOf h key)).map Int.ofNat)=recV intV (((List.range k).filterMap (verOf h key)).map Int.ofNat)++[.int .i64 (q:Int)]):=by
       show _=_
       rw [vers_next,HA.out,List.map_append,recV_append]
       rfl
      have HL':Hid (((List.range (k+1)).filterMap (verOf h key)).length=c+1):=by show _=_;rw [vers_next,HA.out,List.length_append,HL.out];rfl
      obtain ⟨DR,hDR⟩:∃ d,recV intV (((List.range k).filterMap (verOf h key)).map Int.ofNat)=d:=⟨_,rfl⟩
      rw [hDR] at hrow HV
      clear hDR hl d5
      go_wp2_with fail
      refine (D1 _ hbw).mono ?_
      rintro e w1 ⟨rfl,b1⟩
      have B1:=bel_trans hbw b1
      have O1:=owns_below hrow b1
      have m1:=(HQ.out k hk1 _ B1).2.1
      rw [HX.out] at m1
      go_wp2_with fail
      refine (D2 _ B1).mono ?_
      rintro e w2 ⟨rfl,b2⟩
      have B2:=bel_trans B1 b2
      have O2:=owns_below O1 b2
      have sz:=B2.size
      go_wp2_with (at_builtin;refine wpList_append_own _ rfl _ _ 23 rfl w.heap.size 3 i0 (.int .i64 0) 1 8 Tryz.underlying23 hi hz0 hz1 hz2 rfl (by decide) _ _ _ rfl (O2.alloc _) ⟨w2.heap.size,0,none⟩ 1 1 [.int .i64 (q:Int)] rfl rfl ?d1 ?d2 ?d3 ?d4 ?d5 ?_)
      try
       case d1 =>
        intro j u hj
        match j,hj with
        | 0,hj=>simp at hj;subst hj;first | (simp [Addr.add];done) | exact cell_new7 (by simp) rfl
      case d2=>first | (intro u hu;simp at hu;subst hu;rfl) | rfl
      case d3=>unfold maxLen;omega
      case d4=>omega
      case d5=>simp;omega
      intro v' w3 own3 g3 _
      have B3:Below w.heap.size w w3:=(B2.alloc B2.size _).grown g3 (by have:=B2.size;simp at this ⊢;omega) (fun j hj=>(hrow.lt j hj).1)
      go_wp2_with fail
      refine ⟨?relB,?meaB⟩
      case relB=>exact ⟨k+1,c+1,by omega,by omega,by first | go_num | simp,HL',B3,by rw [HV.out];exact own3⟩
      case meaB=>simp [intOf];omega
    ·have hj:oI (endL h x1 n)≠(k:Int):=by
      intro hh
      rcases he:endL h x1 n with _ | e
      ·rw [he] at hh;simp only [oI] at hh;omega
      ·rw [he] at hh;simp only [oI] at hh;exact d5 (by rw [he];congr 1;omega)
     obtain ⟨z,hz⟩:∃ z,oI (endL h x1 n)=z:=⟨_,rfl⟩
     rw [hz] at D1 hj
     have ez:(z != (k:Int))=true:=bne_iff_ne.2 hj
     have HA:Hid (verOf h key k=none):=by show _=_;unfold verOf;rw [HX.out,if_neg (fun hh=>d5 (by have:=hh.2;rw [HN.out] at this;exact this))]
     have HV:Hid (recV intV (((List.range (k+1)).filterMap (verOf h key)).map Int.ofNat)=recV intV (((List.range k).filterMap (verOf h key)).map Int.ofNat)):=by show _=_;rw [vers_next,HA.out,Option.toList_none,List.append_nil]
     have HL':Hid (((List.range (k+1)).filterMap (verOf h key)).length=c):=by show _=_;rw [vers_next,HA.out,Option.toList_none,List.append_nil,HL.out]
     clear hz d5 hj
     go_wp2_with fail
     refine (D1 _ hbw).mono ?_
     rintro e w1 ⟨rfl,b1⟩
     have B1:=bel_trans hbw b1
     have O1:=owns_below hrow b1
     go_wp2_with fail
     refine ⟨?relC,?meaC⟩
     case relC=>exact ⟨k+1,c,by omega,by omega,by first | go_num | simp,HL',B1,by rw [HV.out];exact O1⟩
     case meaC=>simp [intOf];omega
   ·have e4:(x0 != 4)=true:=bne_iff_ne.2 d
    have HA:Hid (verOf h key k=none):=by show _=_;unfold verOf;rw [HX.out,if_neg (fun hh=>d hh.1)]
    have HV:Hid (recV intV (((List.range (k+1)).filterMap (verOf h key)).map Int.ofNat)=recV intV (((List.range k).filterMap (verOf h key)).map Int.ofNat)):=by show _=_;rw [vers_next,HA.out,Option.toList_none,List.append_nil]
    have HL':Hid (((List.range (k+1)).filterMap (verOf h key)).length=c):=by show _=_;rw [vers_next,HA.out,Option.toList_none,List.append_nil,HL.out]
    go_wp2_with fail
    refine ⟨?relD,?meaD⟩
    case relD=>exact ⟨k+1,c,by omega,by omega,by first | go_num | simp,HL',hbw,by rw [HV.out];exact hrow⟩
    case meaD=>simp [intOf];omega
  ·obtain rfl:k=n:=by omega
   have HE:Hid (versL h key=(List.range k).filterMap (verOf h key)):=by show versL h key=_;unfold versL;rw [HN.out]
   go_wp2_with fail
   go_ret
   refine ⟨_,rfl,hbw,?_⟩
   rw [HE.out,List.length_map,HL.out]
   exact hrow
end Go.Proofs.YtdlcimfifkhllaaGreat
