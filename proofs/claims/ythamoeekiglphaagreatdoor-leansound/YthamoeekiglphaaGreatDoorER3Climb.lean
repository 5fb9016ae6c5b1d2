/-
  What cartoucheref03.Climb and Check answer.
-/
import Derived.Test.YthamoeekiglphaaGreatDoorEL3a
namespace Go.Proofs.YthamoeekiglphaaGreatDoor
set_option maxRecDepth 100000
open Go.RowKit
set_option linter.unusedVariables false
attribute [local go_sem] ba_size
theorem climbL_arg (sm:List UInt8→List UInt8) (n i:Int) (s:List UInt8) (p:List (List UInt8)) (h:n < 1∨4096 < n∨i < 0∨n≤i):climbL sm n i s p=([],1):=by unfold climbL;rw [if_pos h]
theorem climbL_32 (sm:List UInt8→List UInt8) (n i:Int) (s:List UInt8) (p:List (List UInt8)) (h:¬ (n < 1∨4096 < n∨i < 0∨n≤i)) (k:Nat) (hk:k < p.length) (h32:p[k].length≠32):climbL sm n i s p=([],14):=by
 unfold climbL;rw [if_neg h,if_pos ⟨p[k],List.getElem_mem hk,h32⟩]
def clEnd (sm:List UInt8→List UInt8) (n:Nat):Option (List (List UInt8))→List (List UInt8) × Nat
 | none=>([],14)
 | some l=>(l++[rootI n (sm (l.getLastD []))],0)
theorem climbL_in (sm:List UInt8→List UInt8) (n i:Int) (s:List UInt8) (p:List (List UInt8)) (h:¬ (n < 1∨4096 < n∨i < 0∨n≤i)) (h32:∀ x∈p,x.length=32):climbL sm n i s p=clEnd sm n.toNat (inL sm n.toNat i.toNat s p):=by
 unfold climbL;rw [if_neg h,if_neg (fun ⟨x,hx,hn⟩=>hn (h32 x hx))];cases inL sm n.toNat i.toNat s p<;>rfl
set_option maxHeartbeats 1000000 in
theorem rclimb_arg (n i:Int) (s:List UInt8) (p:List (List UInt8)) (v:Value) (w:World) (hT:IsTxt w v p) (h:n < 1∨4096 < n∨i < 0∨n≤i) :
 Calls Tryz.prog 25 #[.int .i64 n,.int .i64 i,.string ⟨s.toArray⟩,v] w fun e w'=>ClRes w (climbL sumL n i s p) e w':=by
 rw [climbL_arg sumL n i s p h];obtain ⟨a,cap,rfl,h1,h2,h3⟩:=hT.len;clear hT
 by_cases c1:n < 1
 ·go_enter Tryz.func25,Tryz.ntmps25
  go_wp2_with fail
  go_ret2
  exact ⟨_,rfl,Below.refl _ _,World.ownsRow_nil _ _ _ _⟩
 ·by_cases c2:4096 < n
  ·go_enter Tryz.func25,Tryz.ntmps25
   go_wp2_with fail
   go_ret2
   exact ⟨_,rfl,Below.refl _ _,World.ownsRow_nil _ _ _ _⟩
  ·by_cases c3:i < 0
   ·go_enter Tryz.func25,Tryz.ntmps25
    go_wp2_with fail
    go_ret2
    exact ⟨_,rfl,Below.refl _ _,World.ownsRow_nil _ _ _ _⟩
   ·have c4:n≤i:=by omega
    go_enter Tryz.func25,Tryz.ntmps25
    go_wp2_with fail
    go_ret2
    exact ⟨_,rfl,Below.refl _ _,World.ownsRow_nil _ _ _ _⟩
set_option maxRecDepth 100000 in
set_option maxHeartbeats 2000000 in
theorem rclimb_any (n i:Int) (s:List UInt8) (hs:s.length≤1125899906842500) (p:List (List UInt8)) (v:Value) (w:World) (hT:IsTxt w v p) :
 Calls Tryz.prog 25 #[.int .i64 n,.int .i64 i,.string ⟨s.toArray⟩,v] w fun e w'=>ClRes w (climbL sumL n i s p) e w':=by
 by_cases hA:n < 1∨4096 < n∨i < 0∨n≤i
 ·exact rclimb_arg n i s p v w hT hA
 ·obtain ⟨i0,hi,hz0,hz1,hz2⟩:=info_parts str_info
  have hin:=climbL_in sumL n i s p hA;have h32:=climbL_32 sumL n i s p hA;obtain ⟨N,rfl⟩:∃ N:Nat,n=N:=⟨n.toNat,by omega⟩;obtain ⟨I,rfl⟩:∃ I:Nat,i=I:=⟨i.toNat,by omega⟩;simp only [Int.toNat_natCast] at hin;have c1:¬ (N:Int) < 1:=by omega
  have c2:¬ (4096:Int) < (N:Int):=by omega
  have c3:¬ (I:Int) < 0:=by omega
  have c4:¬ (N:Int)≤(I:Int):=by omega
  have hIn:=fun h w1 hh=>rin_any N N I s p v w1 rfl (by omega) (by omega) (by omega) hs h hh
  have hF:=fun L h32 h=>inL_facts sumL sumL_len N N I s p L rfl (by omega) h32 h
  obtain ⟨C,hC⟩:∃ C,climbL sumL N I s p=C:=⟨_,rfl⟩;rw [hC] at hin h32 ⊢;have HIN:Hid ((∀ x∈p,x.length=32)→C=clEnd sumL N (inL sumL N I s p)):=hin;have H32:Hid (∀ (k:Nat) (hk:k < p.length),p[k].length≠32→C=([],14)):=h32;obtain ⟨O,hO⟩:∃ O,inL sumL N I s p=O:=⟨_,rfl⟩;rw [hO] at hIn hF HIN;clear hin h32 hC hO hA;have hT0:=hT;obtain ⟨a,cap,rfl,h1,h2,h3,HC⟩:=hT.some_at;have HT:Hid (IsTxt w (.slice a p.length cap) p):=hT0;have HI:Hid ((∀ x∈p,x.length=32)→∀ w1,IsTxt w1 (.slice a p.length cap) p→Calls Tryz.prog 56 #[.int .i64 N,.int .i64 I,.string ⟨s.toArray⟩,.slice a p.length cap] w1 fun e w'=>InRes w1 O e w'):=hIn;have HF:Hid (∀ L,(∀ x∈p,x.length=32)→O=some L→L.length≤N∧0 < L.length∧∀ t∈L,t.length≤s.length+65):=hF
  clear hT hT0 hIn hF;go_enter Tryz.func25,Tryz.ntmps25
  go_wp2_with fail
  go_loop [10] (fun j=>∃ k:Nat,k≤p.length∧j=.int .i64 k∧Hid (∀ x∈p.take k,x.length=32)) (fun j=>p.length - (RowKit.intOf j).toNat)
  case atStart=>exact ⟨0,Nat.zero_le _,rfl,fun x hx=>by simp at hx⟩
  case round =>
   obtain ⟨k,hk,rfl,HA⟩:=hrel
   by_cases hlt:k < p.length
   ·have j0:(k:Int) < (p.length:Int):=by omega
    obtain ⟨b,off,rfl,hblt,c0⟩:=HC.out k hlt
    by_cases h32:p[k].length=32
    ·have j1:((p[k].length:Int) != 32)=false:=by rw [h32];rfl
     have HA':Hid (∀ x∈p.take (k+1),x.length=32):=by
      intro x hx;rw [List.take_succ_eq_append_getElem hlt] at hx;rcases List.mem_append.1 hx with h | h
      ·exact HA.out x h
      ·rw [List.mem_singleton] at h;rw [h];exact h32
     obtain ⟨pk,hpk⟩:∃ pk,p[k]=pk:=⟨_,rfl⟩;rw [hpk] at c0 h32 j1;clear hpk;go_wp2_with fail
     refine ⟨?relA,?measureA⟩
     case relA=>exact ⟨k+1,by omega,by go_num,HA'⟩
     case measureA=>simp [RowKit.intOf];omega
    ·have j1:((p[k].length:Int) != 32)=true:=by rw [bne_iff_ne];omega
     have HE:Hid (C=([],14)):=H32.out k hlt h32;obtain ⟨pk,hpk⟩:∃ pk,p[k]=pk:=⟨_,rfl⟩;rw [hpk] at c0 h32 j1;have j2:¬ (pk.length:Int)=32:=by omega
     clear hpk;go_wp2_with fail
     go_ret2
     refine ⟨.slice none 0 0,?_,Below.refl _ _,?_⟩
     ·rw [HE.out];rfl
     ·rw [HE.out];exact World.ownsRow_nil _ _ _ _
   ·obtain rfl:k=p.length:=by omega
    have hall:∀ x∈p,x.length=32:=by
     have h:=HA.out
     rwa [List.take_of_length_le (Nat.le_refl _)] at h
    have hI:=HI.out hall w HT.out;have HIN':=HIN.out hall;have hF':=fun L h=>HF.out L hall h
    have HN:Hid (C=clEnd sumL N O):=HIN';have HFF:Hid (∀ L,O=some L→L.length≤N∧0 < L.length∧∀ t∈L,t.length≤s.length+65):=hF';clear HI HIN HF HIN' hF' hall HA HC HT H32;obtain ⟨q,hq⟩:∃ q,p.length=q:=⟨_,rfl⟩;simp only [hq] at hI hlt hk h1 h3 ⊢;clear hq;go_wp2_with fail
    refine hI.mono ?_;rintro e w2 hres;obtain ⟨r,ok,rfl,hb2,hres⟩:=hres;have hs2:=hb2.size;rcases hres with ⟨hO,rfl⟩ | ⟨L,hO,rfl,hown⟩
    ·have HE:Hid (C=([],14)):=by have:=HN.out;rw [hO] at this;exact this
     go_wp2_with fail
     go_ret2
     refine ⟨.slice none 0 0,?_,hb2,?_⟩
     ·rw [HE.out];rfl
     ·rw [HE.out];exact World.ownsRow_nil _ _ _ _
    ·obtain ⟨f1,f2,f3⟩:=HFF.out L hO
     have hLl:=f3 _ (last_mem L f2);have hLe:=last_get L f2;have hX:=IsTxt.own hown (by omega) (fun t ht=>by have:=f3 t ht;omega);obtain ⟨g,goff,gcap,rfl,hglt,gc1,gc2,gn,GC⟩:=hX.at f2;have d0:w2.cell? ⟨g,goff+(L.length - 1),none⟩=some (.string ⟨(L.getLastD []).toArray⟩):=by rw [hLe];exact GC.out (L.length - 1) (by omega)
     have HE:Hid (C=(L++[rootI N (sumL (L.getLastD []))],0)):=by have:=HN.out;rw [hO] at this;exact this
     have hS:=fun w1=>rsumL_any (L.getLastD []) (by omega) w1
     have lx:=sumL_len (L.getLastD []);obtain ⟨u,hu⟩:∃ u,L.getLastD []=u:=⟨_,rfl⟩;rw [hu] at d0 HE hS lx;obtain ⟨x,hx⟩:∃ x,sumL u=x:=⟨_,rfl⟩;rw [hx] at HE hS lx;have hR:=fun w1=>rrootIn_any N (by omega) x (by omega) w1
     obtain ⟨R,hRR⟩:∃ R,rootI N x=R:=⟨_,rfl⟩;rw [hRR] at hR HE;obtain ⟨d,hd⟩:∃ d,L.length=d:=⟨_,rfl⟩;have own2:=hown;simp only [hd] at own2 d0 f1 f2 gc1 gn ⊢;clear hu hx hRR hX GC hLe hLl f3 hI hO hown HN HFF;have v0:IntKind.i64.wrap ((d:Int) - 1)=(d:Int) - 1:=by rw [IntKind.wrap_i64];omega
     have v1:((d:Int) - 1).toNat=d - 1:=by omega
     have v2:(0:Int)≤(d:Int) - 1:=by omega
     have v3:(d:Int) - 1 < (d:Int):=by omega
     go_wp2_with fail
     refine (hS w2).mono ?_;rintro e w3 ⟨rfl,hb3⟩;go_wp2_with fail
     refine (hR w3).mono ?_;rintro e w4 ⟨rfl,hb4⟩;have hbw4:=bel_trans (bel_trans hb2 hb3) hb4;have hs4:=hbw4.size;have own4:w4.ownsRow w.heap.size 9 1 (.slice (some ⟨g,goff,none⟩) d gcap) d (strV L):=owns_below (owns_below own2 hb3) hb4;go_wp2_with (at_builtin;refine wpList_append_own _ rfl _ _ 45 rfl w.heap.size 9 i0 (.string ByteArray.empty) 1 16 Tryz.underlying45 hi hz0 hz1 hz2 rfl (by decide) _ _ _ rfl (own4.alloc _) ⟨w4.heap.size,0,none⟩ 1 1 [.string ⟨R.toArray⟩] rfl rfl ?d1 ?d2 ?d3 ?d4 ?d5 ?_)
     case d1 =>
      intro j u hj
      match j,hj with
      | 0,hj=>simp at hj;subst hj;simp [Addr.add]
     case d2=>intro u hu;simp at hu;subst hu;rfl
     case d3=>unfold maxLen;omega
     case d4=>omega
     case d5=>simp;omega
     intro v' w5 own5 grow5 _;have hbw5:Below w.heap.size w w5:=(hbw4.alloc hs4 _).grown grow5 (by simp;omega) (fun j hj=>(own4.lt j hj).1)
     have HO5:w5.ownsRow w.heap.size 9 1 v' (L++[R]).length (strV (L++[R])):=by
      rw [strV_snoc,List.length_append,hd];exact own5
     go_wp2_with fail
     go_ret2
     refine ⟨v',?_,hbw5,?_⟩
     ·rw [HE.out];rfl
     ·rw [HE.out];exact HO5
end Go.Proofs.YthamoeekiglphaaGreatDoor
