/-
  What cartoucheref03.inputs answers. Package lean keeps its word.
-/
import Derived.Test.YthamoeekiglphaaGreatDoorER3Path
import Derived.Test.YthamoeekiglphaaGreatDoorEP15Chk
namespace Go.Proofs.YthamoeekiglphaaGreatDoor
set_option maxRecDepth 100000
open Go.RowKit
set_option linter.unusedVariables false
attribute [local go_sem] ba_size
def InRes (w:World) (O:Option (List (List UInt8))) (e:Ending) (w':World):Prop:=∃ r ok,e=.returned (.tuple #[r,.bool ok])∧Below w.heap.size w w'∧((O=none∧ok=false)∨(∃ L,O=some L∧ok=true∧w'.ownsRow w.heap.size 9 1 r L.length (strV L)))
set_option maxRecDepth 100000 in
set_option maxHeartbeats 4000000 in
theorem rin_any:∀ (m n i:Nat) (s:List UInt8) (p:List (List UInt8)) (v:Value) (w:World),n=m→1≤n→n≤4096→i < n→s.length≤1125899906842500→(∀ x∈p,x.length=32)→IsTxt w v p →
 Calls Tryz.prog 56 #[.int .i64 n,.int .i64 i,.string ⟨s.toArray⟩,v] w fun e w'=>InRes w (inL sumL n i s p) e w':=by
 obtain ⟨i0,hi,hz0,hz1,hz2⟩:=info_parts str_info;intro m
 induction m using Nat.strongRecOn with
 | _ m ih =>
   intro n i s p v w hnm h1n hn4 hin hs hp32 hT;subst hnm;have j0:¬ (i:Int) < 0:=by omega
   by_cases h1:n=1
   ·subst h1
    obtain ⟨a,cap,rfl,h1,h2,h3⟩:=hT.len;have hE:=inL_one sumL 1 i s p (by omega);have hL:=fun w1=>rleafIn_any s (by omega) w1
    have hok:((p.length:Int)==0)=decide (p.length=0):=by
     by_cases h:p.length=0
     ·rw [h];rfl
     ·rw [decide_eq_false h,beq_eq_false_iff_ne];omega
    have HE:Hid (inL sumL 1 i s p=if p.length=0 then some [leafI s] else none):=hE;clear hE ih hT hp32;obtain ⟨q,hq⟩:∃ q,p.length=q:=⟨_,rfl⟩;simp only [hq] at *;clear hq;go_enter Tryz.func56,Tryz.ntmps56
    go_wp2_with fail
    refine (hL w).mono ?_;rintro e w1 ⟨rfl,hb1⟩;go_wp2_with fail
    go_ret2
    refine ⟨_,_,rfl,hb1.alloc hb1.size _,?_⟩
    by_cases h:q=0
    ·right
     have e1:=HE.out;rw [if_pos h] at e1;refine ⟨_,e1,by simp [h],⟨rfl,.inr ⟨w1.heap.size,1,_,rfl,hb1.size,heap_alloc_new w1 _,by simp,by decide,rfl,rfl⟩⟩⟩
    ·left
     have e1:=HE.out;rw [if_neg h] at e1;exact ⟨e1,by simp [h]⟩
   ·have i1:((n:Int)==1)=false:=by rw [beq_eq_false_iff_ne];omega
    by_cases hp0:p.length=0
    ·obtain ⟨a,cap,rfl,h1',h2,h3⟩:=hT.len
     have HE:Hid (inL sumL n i s p=none):=inL_none sumL n i s p (by omega) hp0;rw [hp0];clear ih hT hp32;go_enter Tryz.func56,Tryz.ntmps56
     go_wp2_with fail
     go_ret2
     refine ⟨.slice none 0 0,false,?_,Below.refl _ _,Or.inl ⟨HE.out,rfl⟩⟩;rfl
    ·have hq0:0 < p.length:=by omega
     have hbd:=hT.bound;obtain ⟨b,off,cap,rfl,hblt,hc1,hc2,hn,HC⟩:=hT.at hq0;have hlt:=hf_lt n (by omega);have hps:=hf_pos n;have T1:=hT.take (p.length - 1) (by omega) hq0;have hH:=fun w1=>rhalf_any n (by omega) w1
     have hlast:=last_get p hq0;have hlm:=hp32 _ (last_mem p hq0);have c0:w.cell? ⟨b,off+(p.length - 1),none⟩=some (.string ⟨(p.getLastD []).toArray⟩):=by rw [hlast];exact HC.out (p.length - 1) (by omega)
     have hdl:p.dropLast=p.take (p.length - 1):=List.dropLast_eq_take;clear hlast;obtain ⟨last,hlast⟩:∃ last,p.getLastD []=last:=⟨_,rfl⟩;rw [hlast] at c0 hlm;obtain ⟨k,hk⟩:∃ k,hf n=k:=⟨_,rfl⟩;rw [hk] at hlt hps hH
     by_cases hik:i < k
     ·have I:=fun w1 h=>ih k (by omega) k i s (p.take (p.length - 1)) (.slice (some ⟨b,off,none⟩) (p.length - 1) cap) w1 rfl (by omega) (by omega) (by omega) hs (fun x hx=>hp32 x (List.mem_of_mem_take hx)) h
      have hE:=inL_left sumL n i s p (by omega) (by omega) (by rw [hk];exact hik);rw [hk,hdl,hlast] at hE;have HE:Hid (inL sumL n i s p=Option.map (fun l=>l++[nodeI (sumL (l.getLastD [])) last]) (inL sumL k i s (p.take (p.length - 1)))):=hE;clear hE;have hF:=fun L h=>inL_facts sumL sumL_len k k i s (p.take (p.length - 1)) L rfl (by omega) (fun x hx=>hp32 x (List.mem_of_mem_take hx)) h
      obtain ⟨O,hO⟩:∃ O,inL sumL k i s (p.take (p.length - 1))=O:=⟨_,rfl⟩;rw [hO] at HE I hF;obtain ⟨q,hq⟩:∃ q,p.length=q:=⟨_,rfl⟩;obtain ⟨p',hp'⟩:∃ p',p.take (p.length - 1)=p':=⟨_,rfl⟩;rw [hp'] at T1 I;simp only [hq] at T1 I hq0 hc1 hn4 c0 ⊢;clear hO ih hT HC hlast hdl hp32 hp' hq hk hbd;have i5:(i:Int) < (k:Int):=by omega
      have y0:((q:Int)==0)=false:=by rw [beq_eq_false_iff_ne];omega
      have y1:IntKind.i64.wrap ((q:Int) - 1)=(q:Int) - 1:=by rw [IntKind.wrap_i64];omega
      have y2:((q:Int) - 1).toNat=q - 1:=by omega
      have y3:(0:Int)≤(q:Int) - 1:=by omega
      have y4:(q:Int) - 1 < (q:Int):=by omega
      have y5:(q:Int) - 1≤(cap:Int):=by omega
      go_enter Tryz.func56,Tryz.ntmps56
      go_wp2_with fail
      refine (hH w).mono ?_;rintro e w1 ⟨rfl,hb1⟩;have c1:w1.cell? ⟨b,off+(q - 1),none⟩=some (.string ⟨last.toArray⟩):=(hb1.cell (p:=⟨b,off+(q - 1),none⟩) hblt).trans c0;go_wp2_with fail
      refine (I w1 (T1.below hb1)).mono ?_;rintro e w2 ⟨r,ok,rfl,hb2,hres⟩;have hbw2:=bel_trans hb1 hb2;have hs2:=hbw2.size;rcases hres with ⟨hO,rfl⟩ | ⟨L,hO,rfl,hown⟩
      ·have HN:Hid (inL sumL n i s p=none):=by have:=HE.out;rw [hO] at this;exact this
       go_wp2_with fail
       go_ret2
       exact ⟨_,_,rfl,hbw2,Or.inl ⟨HN.out,rfl⟩⟩
      ·obtain ⟨f1,f2,f3⟩:=hF L hO
       have hLl:=f3 _ (last_mem L f2);have hLe:=last_get L f2;have hX:=IsTxt.own hown (by omega) (fun t ht=>by have:=f3 t ht;omega);obtain ⟨g,goff,gcap,rfl,hglt,gc1,gc2,gn,GC⟩:=hX.at f2;have c2:w2.cell? ⟨g,goff+(L.length - 1),none⟩=some (.string ⟨(L.getLastD []).toArray⟩):=by rw [hLe];exact GC.out (L.length - 1) (by omega)
       have HN:Hid (inL sumL n i s p=some (L++[nodeI (sumL (L.getLastD [])) last])):=by have:=HE.out;rw [hO] at this;exact this
       have hS:=fun w1=>rsumL_any (L.getLastD []) (by omega) w1
       have lx:=sumL_len (L.getLastD []);obtain ⟨u,hu⟩:∃ u,L.getLastD []=u:=⟨_,rfl⟩;rw [hu] at c2 HN hS lx;obtain ⟨x,hx⟩:∃ x,sumL u=x:=⟨_,rfl⟩;rw [hx] at HN hS lx;have hNd:=fun w1=>rnodeIn_any x last (by omega) (by omega) w1
       obtain ⟨N,hNN⟩:∃ N,nodeI x last=N:=⟨_,rfl⟩;rw [hNN] at hNd HN;obtain ⟨d,hd⟩:∃ d,L.length=d:=⟨_,rfl⟩;have own2:=hown;simp only [hd] at own2 c2 f1 f2 gc1 gn ⊢;clear hu hx hNN hX GC hLe hLl f3 I hH T1 hF hO hown;have v0:IntKind.i64.wrap ((d:Int) - 1)=(d:Int) - 1:=by rw [IntKind.wrap_i64];omega
       have v1:((d:Int) - 1).toNat=d - 1:=by omega
       have v2:(0:Int)≤(d:Int) - 1:=by omega
       have v3:(d:Int) - 1 < (d:Int):=by omega
       go_wp2_with fail
       refine (hS w2).mono ?_;rintro e w3 ⟨rfl,hb3⟩;go_wp2_with fail
       refine (hNd w3).mono ?_;rintro e w4 ⟨rfl,hb4⟩;have hbw4:=bel_trans (bel_trans hbw2 hb3) hb4;have hs4:=hbw4.size;have own4:w4.ownsRow w.heap.size 9 1 (.slice (some ⟨g,goff,none⟩) d gcap) d (strV L):=owns_mono (owns_below (owns_below own2 hb3) hb4) hb1.size;go_wp2_with (at_builtin;refine wpList_append_own _ rfl _ _ 45 rfl w.heap.size 9 i0 (.string ByteArray.empty) 1 16 Tryz.underlying45 hi hz0 hz1 hz2 rfl (by decide) _ _ _ rfl (own4.alloc _) ⟨w4.heap.size,0,none⟩ 1 1 [.string ⟨N.toArray⟩] rfl rfl ?d1 ?d2 ?d3 ?d4 ?d5 ?_)
       case d1 =>
        intro j u hj
        match j,hj with
        | 0,hj=>simp at hj;subst hj;simp [Addr.add]
       case d2=>intro u hu;simp at hu;subst hu;rfl
       case d3=>unfold maxLen;omega
       case d4=>omega
       case d5=>simp;omega
       intro v' w5 own5 grow5 _;have hbw5:Below w.heap.size w w5:=(hbw4.alloc hs4 _).grown grow5 (by simp;omega) (fun j hj=>(own4.lt j hj).1)
       have HO5:w5.ownsRow w.heap.size 9 1 v' (L++[N]).length (strV (L++[N])):=by
        rw [strV_snoc,List.length_append,hd];exact own5
       go_wp2_with fail
       go_ret2
       exact ⟨_,_,rfl,hbw5,Or.inr ⟨_,HN.out,rfl,HO5⟩⟩
     ·have I:=fun w1 h=>ih (n - k) (by omega) (n - k) (i - k) s (p.take (p.length - 1)) (.slice (some ⟨b,off,none⟩) (p.length - 1) cap) w1 rfl (by omega) (by omega) (by omega) hs (fun x hx=>hp32 x (List.mem_of_mem_take hx)) h
      have hE:=inL_right sumL n i s p (by omega) (by omega) (by rw [hk];exact hik);rw [hk,hdl,hlast] at hE;have HE:Hid (inL sumL n i s p=Option.map (fun l=>l++[nodeI last (sumL (l.getLastD []))]) (inL sumL (n - k) (i - k) s (p.take (p.length - 1)))):=hE;clear hE;have hF:=fun L h=>inL_facts sumL sumL_len (n - k) (n - k) (i - k) s (p.take (p.length - 1)) L rfl (by omega) (fun x hx=>hp32 x (List.mem_of_mem_take hx)) h
      rw [show (((i - k:Nat)):Int)=(i:Int) - (k:Int) by omega,show (((n - k:Nat)):Int)=(n:Int) - (k:Int) by omega] at I;obtain ⟨O,hO⟩:∃ O,inL sumL (n - k) (i - k) s (p.take (p.length - 1))=O:=⟨_,rfl⟩;rw [hO] at HE I hF;obtain ⟨q,hq⟩:∃ q,p.length=q:=⟨_,rfl⟩;obtain ⟨p',hp'⟩:∃ p',p.take (p.length - 1)=p':=⟨_,rfl⟩;rw [hp'] at T1 I;simp only [hq] at T1 I hq0 hc1 hn4 c0 ⊢;clear hO ih hT HC hlast hdl hp32 hp' hq hk hbd;have i5:¬ (i:Int) < (k:Int):=by omega
      have y0:((q:Int)==0)=false:=by rw [beq_eq_false_iff_ne];omega
      have y1:IntKind.i64.wrap ((q:Int) - 1)=(q:Int) - 1:=by rw [IntKind.wrap_i64];omega
      have y2:((q:Int) - 1).toNat=q - 1:=by omega
      have y3:(0:Int)≤(q:Int) - 1:=by omega
      have y4:(q:Int) - 1 < (q:Int):=by omega
      have y5:(q:Int) - 1≤(cap:Int):=by omega
      have z1:IntKind.i64.wrap ((i:Int) - (k:Int))=(i:Int) - (k:Int):=by rw [IntKind.wrap_i64];omega
      have z2:IntKind.i64.wrap ((n:Int) - (k:Int))=(n:Int) - (k:Int):=by rw [IntKind.wrap_i64];omega
      go_enter Tryz.func56,Tryz.ntmps56
      go_wp2_with fail
      refine (hH w).mono ?_;rintro e w1 ⟨rfl,hb1⟩;have c1:w1.cell? ⟨b,off+(q - 1),none⟩=some (.string ⟨last.toArray⟩):=(hb1.cell (p:=⟨b,off+(q - 1),none⟩) hblt).trans c0;go_wp2_with fail
      refine (I w1 (T1.below hb1)).mono ?_;rintro e w2 ⟨r,ok,rfl,hb2,hres⟩;have hbw2:=bel_trans hb1 hb2;have hs2:=hbw2.size;rcases hres with ⟨hO,rfl⟩ | ⟨L,hO,rfl,hown⟩
      ·have HN:Hid (inL sumL n i s p=none):=by have:=HE.out;rw [hO] at this;exact this
       go_wp2_with fail
       go_ret2
       exact ⟨_,_,rfl,hbw2,Or.inl ⟨HN.out,rfl⟩⟩
      ·obtain ⟨f1,f2,f3⟩:=hF L hO
       have hLl:=f3 _ (last_mem L f2);have hLe:=last_get L f2;have hX:=IsTxt.own hown (by omega) (fun t ht=>by have:=f3 t ht;omega);obtain ⟨g,goff,gcap,rfl,hglt,gc1,gc2,gn,GC⟩:=hX.at f2;have c2:w2.cell? ⟨g,goff+(L.length - 1),none⟩=some (.string ⟨(L.getLastD []).toArray⟩):=by rw [hLe];exact GC.out (L.length - 1) (by omega)
       have HN:Hid (inL sumL n i s p=some (L++[nodeI last (sumL (L.getLastD []))])):=by have:=HE.out;rw [hO] at this;exact this
       have hS:=fun w1=>rsumL_any (L.getLastD []) (by omega) w1
       have lx:=sumL_len (L.getLastD []);obtain ⟨u,hu⟩:∃ u,L.getLastD []=u:=⟨_,rfl⟩;rw [hu] at c2 HN hS lx;obtain ⟨x,hx⟩:∃ x,sumL u=x:=⟨_,rfl⟩;rw [hx] at HN hS lx;have hNd:=fun w1=>rnodeIn_any last x (by omega) (by omega) w1
       obtain ⟨N,hNN⟩:∃ N,nodeI last x=N:=⟨_,rfl⟩;rw [hNN] at hNd HN;obtain ⟨d,hd⟩:∃ d,L.length=d:=⟨_,rfl⟩;have own2:=hown;simp only [hd] at own2 c2 f1 f2 gc1 gn ⊢;clear hu hx hNN hX GC hLe hLl f3 I hH T1 hF hO hown;have v0:IntKind.i64.wrap ((d:Int) - 1)=(d:Int) - 1:=by rw [IntKind.wrap_i64];omega
       have v1:((d:Int) - 1).toNat=d - 1:=by omega
       have v2:(0:Int)≤(d:Int) - 1:=by omega
       have v3:(d:Int) - 1 < (d:Int):=by omega
       go_wp2_with fail
       refine (hS w2).mono ?_;rintro e w3 ⟨rfl,hb3⟩;go_wp2_with fail
       refine (hNd w3).mono ?_;rintro e w4 ⟨rfl,hb4⟩;have hbw4:=bel_trans (bel_trans hbw2 hb3) hb4;have hs4:=hbw4.size;have own4:w4.ownsRow w.heap.size 9 1 (.slice (some ⟨g,goff,none⟩) d gcap) d (strV L):=owns_mono (owns_below (owns_below own2 hb3) hb4) hb1.size;go_wp2_with (at_builtin;refine wpList_append_own _ rfl _ _ 45 rfl w.heap.size 9 i0 (.string ByteArray.empty) 1 16 Tryz.underlying45 hi hz0 hz1 hz2 rfl (by decide) _ _ _ rfl (own4.alloc _) ⟨w4.heap.size,0,none⟩ 1 1 [.string ⟨N.toArray⟩] rfl rfl ?d1 ?d2 ?d3 ?d4 ?d5 ?_)
       case d1 =>
        intro j u hj
        match j,hj with
        | 0,hj=>simp at hj;subst hj;simp [Addr.add]
       case d2=>intro u hu;simp at hu;subst hu;rfl
       case d3=>unfold maxLen;omega
       case d4=>omega
       case d5=>simp;omega
       intro v' w5 own5 grow5 _;have hbw5:Below w.heap.size w w5:=(hbw4.alloc hs4 _).grown grow5 (by simp;omega) (fun j hj=>(own4.lt j hj).1)
       have HO5:w5.ownsRow w.heap.size 9 1 v' (L++[N]).length (strV (L++[N])):=by
        rw [strV_snoc,List.length_append,hd];exact own5
       go_wp2_with fail
       go_ret2
       exact ⟨_,_,rfl,hbw5,Or.inr ⟨_,HN.out,rfl,HO5⟩⟩
theorem p15c:P15C where
 proved:=fun c vo vr vp root w hG hC=>by
  obtain ⟨hO,hR,hP⟩:=hC;obtain ⟨oa,oc,rfl,_⟩:=hO.some_at;obtain ⟨ra,rc,rfl,_⟩:=hR.some_at;obtain ⟨pa,pc,rfl,_⟩:=hP.len;obtain ⟨tn,sq,pv,rt,ct,⟨lv,ac,o,⟨k,i,j⟩,r⟩,p⟩:=c;exact pproved15 tn sq pv rt ct lv k i j ac oa oc o ra rc r pa pc p root w hG hO hR hP
 check:=fun c vo vr vp root w hG hC=>by
  obtain ⟨hO,hR,hP⟩:=hC;obtain ⟨oa,oc,rfl,_⟩:=hO.some_at;obtain ⟨ra,rc,rfl,_⟩:=hR.some_at;obtain ⟨pa,pc,rfl,_⟩:=hP.len;obtain ⟨tn,sq,pv,rt,ct,⟨lv,ac,o,⟨k,i,j⟩,r⟩,p⟩:=c;exact pcheck15 tn sq pv rt ct lv k i j ac oa oc o ra rc r pa pc p root w hG hO hR hP
 bad:=fun l v b w hP=>pbad15_any l v w hP b.1 b.2.1 b.2.2
 edge:=fun l v e w hP=>pedge15_any l v w hP e.1 e.2.1 e.2.2.1 e.2.2.2.1 e.2.2.2.2
end Go.Proofs.YthamoeekiglphaaGreatDoor
