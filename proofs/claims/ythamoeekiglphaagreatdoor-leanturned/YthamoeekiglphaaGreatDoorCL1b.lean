/-
  What cartoucheref14.May answers. Twins, as loops find them: in lists. What the statements of chapter 7 come to, in lists. What cartoucheref03.inputs answers. Wh
-/
import Derived.Test.YthamoeekiglphaaGreatDoorCR14MayC
import Derived.Test.YthamoeekiglphaaGreatDoorCL1a
import Derived.Test.YthamoeekiglphaaGreatDoorCP15Edge
import Derived.Lib.Tables
namespace Go.Proofs.YthamoeekiglphaaGreatDoor
set_option maxRecDepth 100000
open Go.RowKit
set_option linter.unusedVariables false
attribute [local go_sem] ba_size
theorem may_parts (c:Ct):mayC c↔¬ (c.1.length < 1∨16 < c.1.length∨c.2.1 < 1∨1048576 < c.2.1∨(c.2.2.1.length≠0∧c.2.2.1.length≠32)∨c.2.2.2.1.length≠32∨c.2.2.2.2.1 < 0∨256 < c.2.2.2.2.1) ∧
 ¬ (c.2.2.2.2.2.1.1 < 1∨2 < c.2.2.2.2.2.1.1∨32 < c.2.2.2.2.2.1.2.2.1.length∨c.2.2.2.2.2.1.2.2.2.1.1 < 0∨4 < c.2.2.2.2.2.1.2.2.2.1.1∨¬ (plM c.2.2.2.2.2.1.2.2.2.1.2.1∧plM c.2.2.2.2.2.1.2.2.2.1.2.2)∨128 < c.2.2.2.2.2.1.2.2.2.2.length∨256 < c.2.2.2.2.2.2.length) ∧
 (∀ n∈c.2.2.2.2.2.1.2.2.1,txM n)∧(∀ e∈c.2.2.2.2.2.1.2.2.2.2,edM e)∧∀ p∈c.2.2.2.2.2.2,pfM p:=by
 unfold mayC vdM plM
 constructor
 ·rintro ⟨⟨⟨a1,a2⟩,⟨a3,a4⟩,a5,a6,a7,a8⟩,⟨⟨⟨v1,v2⟩,v3,⟨v4,v5⟩,⟨⟨v6,v7⟩,v8,v9⟩,v10⟩,v11,v12⟩,p1,p2⟩
  exact ⟨by omega,by omega,v11,v12,p2⟩
 ·rintro ⟨h1,h2,h3,h4,h5⟩
  exact ⟨by omega,⟨by omega,h3,h4⟩,by omega,h5⟩
theorem rmay14_any (c:Ct) (vo vr vp:Value) (w:World) (hC:CtAt w c vo vr vp) :
 Calls Tryz.prog 36 #[.agg (ctC c vo vr vp)] w fun e w'=>e=.returned (.bool (decide (mayC c)))∧Below w.heap.size w w':=by
 have HMP:=may_parts c
 obtain ⟨a,sq,p,d,ct,⟨lv,ac,o,⟨k0,k1,k2⟩,g⟩,q⟩:=c
 obtain ⟨hO,hR,hP⟩:=hC
 simp only at hO hR hP HMP ⊢
 obtain ⟨oa,oc,rfl,_⟩:=hO.some_at
 obtain ⟨ra,rc,rfl,_⟩:=hR.some_at
 obtain ⟨pa,pc,rfl,_⟩:=hP.len
 by_cases f1:(a.length < 1∨16 < a.length∨sq < 1∨1048576 < sq∨(p.length≠0∧p.length≠32)∨d.length≠32∨ct < 0∨256 < ct)
 ·rw [decide_eq_false (fun hh=>(HMP.1 hh).1 f1)]
  exact rmay14_f1 a p d sq ct lv k0 k1 k2 ac o g q oa ra pa _ oc _ rc _ pc w f1
 ·by_cases f2:(lv < 1∨2 < lv∨32 < o.length∨k0 < 0∨4 < k0∨¬ (plM k1∧plM k2)∨128 < g.length∨256 < q.length)
  ·rw [decide_eq_false (fun hh=>(HMP.1 hh).2.1 f2)]
   exact rmay14_f2 a p d sq ct lv k0 k1 k2 ac o g q oa ra pa _ oc _ rc _ pc w (by omega) (by omega) (by omega) (by omega) (by omega) f2
  ·have f2':=f2
   unfold plM at f2'
   refine rmay14_rows a p d sq ct lv k0 k1 k2 ac o g q oa ra pa _ oc _ rc _ pc w (by omega) (by omega) (by omega) (by omega) (by omega) (by omega) (by omega) (by omega) (by unfold plM;omega) (by unfold plM;omega) (by omega) (by omega) _ rfl rfl rfl hO hR hP ?_ ?_ ?_ ?_
   ·intro x y z
    exact decide_eq_true (HMP.2 ⟨f1,f2,x,y,z⟩)
   ·intro n hn hx
    exact decide_eq_false (fun hh=>hx ((HMP.1 hh).2.2.1 n hn))
   ·intro n hn hx
    exact decide_eq_false (fun hh=>hx ((HMP.1 hh).2.2.2.1 n hn))
   ·intro n hn hx
    exact decide_eq_false (fun hh=>hx ((HMP.1 hh).2.2.2.2 n hn))
def InRes (w:World) (O:Option (List (List UInt8))) (e:Ending) (w':World):Prop:=∃ r ok,e=.returned (.tuple #[r,.bool ok])∧Below w.heap.size w w'∧((O=none∧ok=false)∨(∃ L,O=some L∧ok=true∧w'.ownsRow w.heap.size 9 1 r L.length (strV L)))
set_option maxRecDepth 100000 in
set_option maxHeartbeats 4000000 in
theorem rin_any:∀ (m n i:Nat) (s:List UInt8) (p:List (List UInt8)) (v:Value) (w:World),n=m→1≤n→n≤4096→i < n→s.length≤1125899906842500→(∀ x∈p,x.length=32)→IsTxt w v p →
 Calls Tryz.prog 56 #[.int .i64 n,.int .i64 i,.string ⟨s.toArray⟩,v] w fun e w'=>InRes w (inL sumL n i s p) e w':=by
 obtain ⟨i0,hi,hz0,hz1,hz2⟩:=info_parts str_info
 intro m
 induction m using Nat.strongRecOn with
 | _ m ih =>
   intro n i s p v w hnm h1n hn4 hin hs hp32 hT
   subst hnm
   have j0:¬ (i:Int) < 0:=by omega
   by_cases h1:n=1
   ·subst h1
    obtain ⟨a,cap,rfl,h1,h2,h3⟩:=hT.len
    have hE:=inL_one sumL 1 i s p (by omega)
    have hL:=fun w1=>rleafIn_any s (by omega) w1
    have hok:((p.length:Int)==0)=decide (p.length=0):=by
     by_cases h:p.length=0
     ·rw [h];rfl
     ·rw [decide_eq_false h,beq_eq_false_iff_ne];omega
    have HE:Hid (inL sumL 1 i s p=if p.length=0 then some [leafI s] else none):=hE
    clear hE ih hT hp32
    obtain ⟨q,hq⟩:∃ q,p.length=q:=⟨_,rfl⟩
    simp only [hq] at *
    clear hq
    go_enter Tryz.func56,Tryz.ntmps56
    go_wp2_with fail
    refine (hL w).mono ?_
    rintro e w1 ⟨rfl,hb1⟩
    go_wp2_with fail
    go_ret2
    refine ⟨_,_,rfl,hb1.alloc hb1.size _,?_⟩
    by_cases h:q=0
    ·right
     have e1:=HE.out
     rw [if_pos h] at e1
     refine ⟨_,e1,by simp [h],⟨rfl,.inr ⟨w1.heap.size,1,_,rfl,hb1.size,heap_alloc_new w1 _,by simp,by decide,rfl,rfl⟩⟩⟩
    ·left
     have e1:=HE.out
     rw [if_neg h] at e1
     exact ⟨e1,by simp [h]⟩
   ·have i1:((n:Int)==1)=false:=by rw [beq_eq_false_iff_ne];omega
    by_cases hp0:p.length=0
    ·obtain ⟨a,cap,rfl,h1',h2,h3⟩:=hT.len
     have HE:Hid (inL sumL n i s p=none):=inL_none sumL n i s p (by omega) hp0
     rw [hp0]
     clear ih hT hp32
     go_enter Tryz.func56,Tryz.ntmps56
     go_wp2_with fail
     go_ret2
     refine ⟨.slice none 0 0,false,?_,Below.refl _ _,Or.inl ⟨HE.out,rfl⟩⟩
     rfl
    ·have hq0:0 < p.length:=by omega
     have hbd:=hT.bound
     obtain ⟨b,off,cap,rfl,hblt,hc1,hc2,hn,HC⟩:=hT.at hq0
     have hlt:=hf_lt n (by omega)
     have hps:=hf_pos n
     have T1:=hT.take (p.length - 1) (by omega) hq0
     have hH:=fun w1=>rhalf_any n (by omega) w1
     have hlast:=last_get p hq0
     have hlm:=hp32 _ (last_mem p hq0)
     have c0:w.cell? ⟨b,off+(p.length - 1),none⟩=some (.string ⟨(p.getLastD []).toArray⟩):=by rw [hlast];exact HC.out (p.length - 1) (by omega)
     have hdl:p.dropLast=p.take (p.length - 1):=List.dropLast_eq_take
     clear hlast
     obtain ⟨last,hlast⟩:∃ last,p.getLastD []=last:=⟨_,rfl⟩
     rw [hlast] at c0 hlm
     obtain ⟨k,hk⟩:∃ k,hf n=k:=⟨_,rfl⟩
     rw [hk] at hlt hps hH
     by_cases hik:i < k
     ·have I:=fun w1 h=>ih k (by omega) k i s (p.take (p.length - 1)) (.slice (some ⟨b,off,none⟩) (p.length - 1) cap) w1 rfl (by omega) (by omega) (by omega) hs (fun x hx=>hp32 x (List.mem_of_mem_take hx)) h
      have hE:=inL_left sumL n i s p (by omega) (by omega) (by rw [hk];exact hik)
      rw [hk,hdl,hlast] at hE
      have HE:Hid (inL sumL n i s p=Option.map (fun l=>l++[nodeI (sumL (l.getLastD [])) last]) (inL sumL k i s (p.take (p.length - 1)))):=hE
      clear hE
      have hF:=fun L h=>inL_facts sumL sumL_len k k i s (p.take (p.length - 1)) L rfl (by omega) (fun x hx=>hp32 x (List.mem_of_mem_take hx)) h
      obtain ⟨O,hO⟩:∃ O,inL sumL k i s (p.take (p.length - 1))=O:=⟨_,rfl⟩
      rw [hO] at HE I hF
      obtain ⟨q,hq⟩:∃ q,p.length=q:=⟨_,rfl⟩
      obtain ⟨p',hp'⟩:∃ p',p.take (p.length - 1)=p':=⟨_,rfl⟩
      rw [hp'] at T1 I
      simp only [hq] at T1 I hq0 hc1 hn4 c0 ⊢
      clear hO ih hT HC hlast hdl hp32 hp' hq hk hbd
      have i5:(i:Int) < (k:Int):=by omega
      have y0:((q:Int)==0)=false:=by rw [beq_eq_false_iff_ne];omega
      have y1:IntKind.i64.wrap ((q:Int) - 1)=(q:Int) - 1:=by rw [IntKind.wrap_i64];omega
      have y2:((q:Int) - 1).toNat=q - 1:=by omega
      have y3:(0:Int)≤(q:Int) - 1:=by omega
      have y4:(q:Int) - 1 < (q:Int):=by omega
      have y5:(q:Int) - 1≤(cap:Int):=by omega
      go_enter Tryz.func56,Tryz.ntmps56
      go_wp2_with fail
      refine (hH w).mono ?_
      rintro e w1 ⟨rfl,hb1⟩
      have c1:w1.cell? ⟨b,off+(q - 1),none⟩=some (.string ⟨last.toArray⟩):=(hb1.cell (p:=⟨b,off+(q - 1),none⟩) hblt).trans c0
      go_wp2_with fail
      refine (I w1 (T1.below hb1)).mono ?_
      rintro e w2 ⟨r,ok,rfl,hb2,hres⟩
      have hbw2:=bel_trans hb1 hb2
      have hs2:=hbw2.size
      rcases hres with ⟨hO,rfl⟩ | ⟨L,hO,rfl,hown⟩
      ·have HN:Hid (inL sumL n i s p=none):=by have:=HE.out;rw [hO] at this;exact this
       go_wp2_with fail
       go_ret2
       exact ⟨_,_,rfl,hbw2,Or.inl ⟨HN.out,rfl⟩⟩
      ·obtain ⟨f1,f2,f3⟩:=hF L hO
       have hLl:=f3 _ (last_mem L f2)
       have hLe:=last_get L f2
       have hX:=IsTxt.own hown (by omega) (fun t ht=>by have:=f3 t ht;omega)
       obtain ⟨g,goff,gcap,rfl,hglt,gc1,gc2,gn,GC⟩:=hX.at f2
       have c2:w2.cell? ⟨g,goff+(L.length - 1),none⟩=some (.string ⟨(L.getLastD []).toArray⟩):=by rw [hLe];exact GC.out (L.length - 1) (by omega)
       have HN:Hid (inL sumL n i s p=some (L++[nodeI (sumL (L.getLastD [])) last])):=by have:=HE.out;rw [hO] at this;exact this
       have hS:=fun w1=>rsumL_any (L.getLastD []) (by omega) w1
       have lx:=sumL_len (L.getLastD [])
       obtain ⟨u,hu⟩:∃ u,L.getLastD []=u:=⟨_,rfl⟩
       rw [hu] at c2 HN hS lx
       obtain ⟨x,hx⟩:∃ x,sumL u=x:=⟨_,rfl⟩
       rw [hx] at HN hS lx
       have hNd:=fun w1=>rnodeIn_any x last (by omega) (by omega) w1
       obtain ⟨N,hNN⟩:∃ N,nodeI x last=N:=⟨_,rfl⟩
       rw [hNN] at hNd HN
       obtain ⟨d,hd⟩:∃ d,L.length=d:=⟨_,rfl⟩
       have own2:=hown
       simp only [hd] at own2 c2 f1 f2 gc1 gn ⊢
       clear hu hx hNN hX GC hLe hLl f3 I hH T1 hF hO hown
       have v0:IntKind.i64.wrap ((d:Int) - 1)=(d:Int) - 1:=by rw [IntKind.wrap_i64];omega
       have v1:((d:Int) - 1).toNat=d - 1:=by omega
       have v2:(0:Int)≤(d:Int) - 1:=by omega
       have v3:(d:Int) - 1 < (d:Int):=by omega
       go_wp2_with fail
       refine (hS w2).mono ?_
       rintro e w3 ⟨rfl,hb3⟩
       go_wp2_with fail
       refine (hNd w3).mono ?_
       rintro e w4 ⟨rfl,hb4⟩
       have hbw4:=bel_trans (bel_trans hbw2 hb3) hb4
       have hs4:=hbw4.size
       have own4:w4.ownsRow w.heap.size 9 1 (.slice (some ⟨g,goff,none⟩) d gcap) d (strV L):=owns_mono (owns_below (owns_below own2 hb3) hb4) hb1.size
       go_wp2_with (at_builtin;refine wpList_append_own _ rfl _ _ 45 rfl w.heap.size 9 i0 (.string ByteArray.empty) 1 16 Tryz.underlying45 hi hz0 hz1 hz2 rfl (by decide) _ _ _ rfl (own4.alloc _) ⟨w4.heap.size,0,none⟩ 1 1 [.string ⟨N.toArray⟩] rfl rfl ?d1 ?d2 ?d3 ?d4 ?d5 ?_)
       case d1 =>
        intro j u hj
        match j,hj with
        | 0,hj=>simp at hj;subst hj;simp [Addr.add]
       case d2=>intro u hu;simp at hu;subst hu;rfl
       case d3=>unfold maxLen;omega
       case d4=>omega
       case d5=>simp;omega
       intro v' w5 own5 grow5 _
       have hbw5:Below w.heap.size w w5:=(hbw4.alloc hs4 _).grown grow5 (by simp;omega) (fun j hj=>(own4.lt j hj).1)
       have HO5:w5.ownsRow w.heap.size 9 1 v' (L++[N]).length (strV (L++[N])):=by
        rw [strV_snoc,List.length_append,hd]
        exact own5
       go_wp2_with fail
       go_ret2
       exact ⟨_,_,rfl,hbw5,Or.inr ⟨_,HN.out,rfl,HO5⟩⟩
     ·have I:=fun w1 h=>ih (n - k) (by omega) (n - k) (i - k) s (p.take (p.length - 1)) (.slice (some ⟨b,off,none⟩) (p.length - 1) cap) w1 rfl (by omega) (by omega) (by omega) hs (fun x hx=>hp32 x (List.mem_of_mem_take hx)) h
      have hE:=inL_right sumL n i s p (by omega) (by omega) (by rw [hk];exact hik)
      rw [hk,hdl,hlast] at hE
      have HE:Hid (inL sumL n i s p=Option.map (fun l=>l++[nodeI last (sumL (l.getLastD []))]) (inL sumL (n - k) (i - k) s (p.take (p.length - 1)))):=hE
      clear hE
      have hF:=fun L h=>inL_facts sumL sumL_len (n - k) (n - k) (i - k) s (p.take (p.length - 1)) L rfl (by omega) (fun x hx=>hp32 x (List.mem_of_mem_take hx)) h
      rw [show (((i - k:Nat)):Int)=(i:Int) - (k:Int) by omega,show (((n - k:Nat)):Int)=(n:Int) - (k:Int) by omega] at I
      obtain ⟨O,hO⟩:∃ O,inL sumL (n - k) (i - k) s (p.take (p.length - 1))=O:=⟨_,rfl⟩
      rw [hO] at HE I hF
      obtain ⟨q,hq⟩:∃ q,p.length=q:=⟨_,rfl⟩
      obtain ⟨p',hp'⟩:∃ p',p.take (p.length - 1)=p':=⟨_,rfl⟩
      rw [hp'] at T1 I
      simp only [hq] at T1 I hq0 hc1 hn4 c0 ⊢
      clear hO ih hT HC hlast hdl hp32 hp' hq hk hbd
      have i5:¬ (i:Int) < (k:Int):=by omega
      have y0:((q:Int)==0)=false:=by rw [beq_eq_false_iff_ne];omega
      have y1:IntKind.i64.wrap ((q:Int) - 1)=(q:Int) - 1:=by rw [IntKind.wrap_i64];omega
      have y2:((q:Int) - 1).toNat=q - 1:=by omega
      have y3:(0:Int)≤(q:Int) - 1:=by omega
      have y4:(q:Int) - 1 < (q:Int):=by omega
      have y5:(q:Int) - 1≤(cap:Int):=by omega
      have z1:IntKind.i64.wrap ((i:Int) - (k:Int))=(i:Int) - (k:Int):=by rw [IntKind.wrap_i64];omega
      have z2:IntKind.i64.wrap ((n:Int) - (k:Int))=(n:Int) - (k:Int):=by rw [IntKind.wrap_i64];omega
      go_enter Tryz.func56,Tryz.ntmps56
      go_wp2_with fail
      refine (hH w).mono ?_
      rintro e w1 ⟨rfl,hb1⟩
      have c1:w1.cell? ⟨b,off+(q - 1),none⟩=some (.string ⟨last.toArray⟩):=(hb1.cell (p:=⟨b,off+(q - 1),none⟩) hblt).trans c0
      go_wp2_with fail
      refine (I w1 (T1.below hb1)).mono ?_
      rintro e w2 ⟨r,ok,rfl,hb2,hres⟩
      have hbw2:=bel_trans hb1 hb2
      have hs2:=hbw2.size
      rcases hres with ⟨hO,rfl⟩ | ⟨L,hO,rfl,hown⟩
      ·have HN:Hid (inL sumL n i s p=none):=by have:=HE.out;rw [hO] at this;exact this
       go_wp2_with fail
       go_ret2
       exact ⟨_,_,rfl,hbw2,Or.inl ⟨HN.out,rfl⟩⟩
      ·obtain ⟨f1,f2,f3⟩:=hF L hO
       have hLl:=f3 _ (last_mem L f2)
       have hLe:=last_get L f2
       have hX:=IsTxt.own hown (by omega) (fun t ht=>by have:=f3 t ht;omega)
       obtain ⟨g,goff,gcap,rfl,hglt,gc1,gc2,gn,GC⟩:=hX.at f2
       have c2:w2.cell? ⟨g,goff+(L.length - 1),none⟩=some (.string ⟨(L.getLastD []).toArray⟩):=by rw [hLe];exact GC.out (L.length - 1) (by omega)
       have HN:Hid (inL sumL n i s p=some (L++[nodeI last (sumL (L.getLastD []))])):=by have:=HE.out;rw [hO] at this;exact this
       have hS:=fun w1=>rsumL_any (L.getLastD []) (by omega) w1
       have lx:=sumL_len (L.getLastD [])
       obtain ⟨u,hu⟩:∃ u,L.getLastD []=u:=⟨_,rfl⟩
       rw [hu] at c2 HN hS lx
       obtain ⟨x,hx⟩:∃ x,sumL u=x:=⟨_,rfl⟩
       rw [hx] at HN hS lx
       have hNd:=fun w1=>rnodeIn_any last x (by omega) (by omega) w1
       obtain ⟨N,hNN⟩:∃ N,nodeI last x=N:=⟨_,rfl⟩
       rw [hNN] at hNd HN
       obtain ⟨d,hd⟩:∃ d,L.length=d:=⟨_,rfl⟩
       have own2:=hown
       simp only [hd] at own2 c2 f1 f2 gc1 gn ⊢
       clear hu hx hNN hX GC hLe hLl f3 I hH T1 hF hO hown
       have v0:IntKind.i64.wrap ((d:Int) - 1)=(d:Int) - 1:=by rw [IntKind.wrap_i64];omega
       have v1:((d:Int) - 1).toNat=d - 1:=by omega
       have v2:(0:Int)≤(d:Int) - 1:=by omega
       have v3:(d:Int) - 1 < (d:Int):=by omega
       go_wp2_with fail
       refine (hS w2).mono ?_
       rintro e w3 ⟨rfl,hb3⟩
       go_wp2_with fail
       refine (hNd w3).mono ?_
       rintro e w4 ⟨rfl,hb4⟩
       have hbw4:=bel_trans (bel_trans hbw2 hb3) hb4
       have hs4:=hbw4.size
       have own4:w4.ownsRow w.heap.size 9 1 (.slice (some ⟨g,goff,none⟩) d gcap) d (strV L):=owns_mono (owns_below (owns_below own2 hb3) hb4) hb1.size
       go_wp2_with (at_builtin;refine wpList_append_own _ rfl _ _ 45 rfl w.heap.size 9 i0 (.string ByteArray.empty) 1 16 Tryz.underlying45 hi hz0 hz1 hz2 rfl (by decide) _ _ _ rfl (own4.alloc _) ⟨w4.heap.size,0,none⟩ 1 1 [.string ⟨N.toArray⟩] rfl rfl ?d1 ?d2 ?d3 ?d4 ?d5 ?_)
       case d1 =>
        intro j u hj
        match j,hj with
        | 0,hj=>simp at hj;subst hj;simp [Addr.add]
       case d2=>intro u hu;simp at hu;subst hu;rfl
       case d3=>unfold maxLen;omega
       case d4=>omega
       case d5=>simp;omega
       intro v' w5 own5 grow5 _
       have hbw5:Below w.heap.size w w5:=(hbw4.alloc hs4 _).grown grow5 (by simp;omega) (fun j hj=>(own4.lt j hj).1)
       have HO5:w5.ownsRow w.heap.size 9 1 v' (L++[N]).length (strV (L++[N])):=by
        rw [strV_snoc,List.length_append,hd]
        exact own5
       go_wp2_with fail
       go_ret2
       exact ⟨_,_,rfl,hbw5,Or.inr ⟨_,HN.out,rfl,HO5⟩⟩
def ClRes (w:World) (c:List (List UInt8) × Nat) (e:Ending) (w':World):Prop:=∃ r,e=.returned (.tuple #[r,.int .i64 (c.2:Int)])∧Below w.heap.size w w'∧w'.ownsRow w.heap.size 9 1 r c.1.length (strV c.1)
theorem rootI_len (n:Nat) (c:List UInt8) (hc:c.length≤32):(rootI n c).length≤50:=by
 unfold rootI
 have:=Lm.numL_length n
 have:=Lm.cnt_le n
 rw [List.length_cons,List.length_append];omega
def unV:Option (List UInt8 × List UInt8)→Value
 | some (x,y)=>.tuple #[.string ⟨x.toArray⟩,.string ⟨y.toArray⟩,.bool true]
 | none=>.tuple #[.string ⟨#[]⟩,.string ⟨#[]⟩,.bool false]
theorem climb_rows (sm:List UInt8→List UInt8) (h32:∀ s,(sm s).length=32) (n i:Int) (s:List UInt8) (p:List (List UInt8)) (h:(climbL sm n i s p).2=0):(climbL sm n i s p).1.length≤4097∧0 < (climbL sm n i s p).1.length∧∀ t∈(climbL sm n i s p).1,t.length≤s.length+65:=by
 obtain ⟨hA,hp,l,hl,hc⟩:=climb_ok sm n i s p h
 obtain ⟨f1,f2,f3⟩:=inL_facts sm h32 n.toNat n.toNat i.toNat s p l rfl (by omega) hp hl
 rw [hc]
 refine ⟨by rw [List.length_append];simp only [List.length_cons,List.length_nil];omega,by simp,fun t ht=>?_⟩
 rcases List.mem_append.1 ht with h | h
 ·exact f3 t h
 ·rw [List.mem_singleton] at h;rw [h]
  have:=rootI_len n.toNat (sm (l.getLastD [])) (by rw [h32];omega)
  omega
theorem unL_eq (sm:List UInt8→List UInt8) (a:List UInt8):unL sm a a=none:=by unfold unL;rw [if_neg (fun h=>h.1 rfl)]
theorem unL_ne (sm:List UInt8→List UInt8) (a b:List UInt8) (h:sm a≠sm b):unL sm a b=none:=by unfold unL;rw [if_neg (fun h'=>h h'.2)]
theorem climbL_arg (sm:List UInt8→List UInt8) (n i:Int) (s:List UInt8) (p:List (List UInt8)) (h:n < 1∨4096 < n∨i < 0∨n≤i):climbL sm n i s p=([],1):=by unfold climbL;rw [if_pos h]
theorem climbL_32 (sm:List UInt8→List UInt8) (n i:Int) (s:List UInt8) (p:List (List UInt8)) (h:¬ (n < 1∨4096 < n∨i < 0∨n≤i)) (k:Nat) (hk:k < p.length) (h32:p[k].length≠32):climbL sm n i s p=([],14):=by
 unfold climbL;rw [if_neg h,if_pos ⟨p[k],List.getElem_mem hk,h32⟩]
def clEnd (sm:List UInt8→List UInt8) (n:Nat):Option (List (List UInt8))→List (List UInt8) × Nat
 | none=>([],14)
 | some l=>(l++[rootI n (sm (l.getLastD []))],0)
theorem climbL_in (sm:List UInt8→List UInt8) (n i:Int) (s:List UInt8) (p:List (List UInt8)) (h:¬ (n < 1∨4096 < n∨i < 0∨n≤i)) (h32:∀ x∈p,x.length=32):climbL sm n i s p=clEnd sm n.toNat (inL sm n.toNat i.toNat s p):=by
 unfold climbL;rw [if_neg h,if_neg (fun ⟨x,hx,hn⟩=>hn (h32 x hx))]
 cases inL sm n.toNat i.toNat s p<;>rfl
set_option maxHeartbeats 1000000 in
theorem rclimb_arg (n i:Int) (s:List UInt8) (p:List (List UInt8)) (v:Value) (w:World) (hT:IsTxt w v p) (h:n < 1∨4096 < n∨i < 0∨n≤i) :
 Calls Tryz.prog 25 #[.int .i64 n,.int .i64 i,.string ⟨s.toArray⟩,v] w fun e w'=>ClRes w (climbL sumL n i s p) e w':=by
 rw [climbL_arg sumL n i s p h]
 obtain ⟨a,cap,rfl,h1,h2,h3⟩:=hT.len
 clear hT
 by_cases c1:n < 1
 ·go_enter Tryz.func25,Tryz.ntmps25
  go_wp2_with fail
  go_ret2
  exact ⟨_,rfl,Below.refl _ _,World.ownsRow_nil _ _ _ _⟩
 ·by_cases c2:4096 < n
  ·go_enter Tryz.func25,Tryz.ntmps25
   go_wp2_with fail
   go_ret2
   exact ⟨_,rfl,Below.refl _ _,World.ownsRow_nil _ _ _ _⟩
  ·by_cases c3:i < 0
   ·go_enter Tryz.func25,Tryz.ntmps25
    go_wp2_with fail
    go_ret2
    exact ⟨_,rfl,Below.refl _ _,World.ownsRow_nil _ _ _ _⟩
   ·have c4:n≤i:=by omega
    go_enter Tryz.func25,Tryz.ntmps25
    go_wp2_with fail
    go_ret2
    exact ⟨_,rfl,Below.refl _ _,World.ownsRow_nil _ _ _ _⟩
set_option maxRecDepth 100000 in
set_option maxHeartbeats 2000000 in
theorem rclimb_any (n i:Int) (s:List UInt8) (hs:s.length≤1125899906842500) (p:List (List UInt8)) (v:Value) (w:World) (hT:IsTxt w v p) :
 Calls Tryz.prog 25 #[.int .i64 n,.int .i64 i,.string ⟨s.toArray⟩,v] w fun e w'=>ClRes w (climbL sumL n i s p) e w':=by
 by_cases hA:n < 1∨4096 < n∨i < 0∨n≤i
 ·exact rclimb_arg n i s p v w hT hA
 ·obtain ⟨i0,hi,hz0,hz1,hz2⟩:=info_parts str_info
  have hin:=climbL_in sumL n i s p hA
  have h32:=climbL_32 sumL n i s p hA
  obtain ⟨N,rfl⟩:∃ N:Nat,n=N:=⟨n.toNat,by omega⟩
  obtain ⟨I,rfl⟩:∃ I:Nat,i=I:=⟨i.toNat,by omega⟩
  simp only [Int.toNat_natCast] at hin
  have c1:¬ (N:Int) < 1:=by omega
  have c2:¬ (4096:Int) < (N:Int):=by omega
  have c3:¬ (I:Int) < 0:=by omega
  have c4:¬ (N:Int)≤(I:Int):=by omega
  have hIn:=fun h w1 hh=>rin_any N N I s p v w1 rfl (by omega) (by omega) (by omega) hs h hh
  have hF:=fun L h32 h=>inL_facts sumL sumL_len N N I s p L rfl (by omega) h32 h
  obtain ⟨C,hC⟩:∃ C,climbL sumL N I s p=C:=⟨_,rfl⟩
  rw [hC] at hin h32 ⊢
  have HIN:Hid ((∀ x∈p,x.length=32)→C=clEnd sumL N (inL sumL N I s p)):=hin
  have H32:Hid (∀ (k:Nat) (hk:k < p.length),p[k].length≠32→C=([],14)):=h32
  obtain ⟨O,hO⟩:∃ O,inL sumL N I s p=O:=⟨_,rfl⟩
  rw [hO] at hIn hF HIN
  clear hin h32 hC hO hA
  have hT0:=hT
  obtain ⟨a,cap,rfl,h1,h2,h3,HC⟩:=hT.some_at
  have HT:Hid (IsTxt w (.slice a p.length cap) p):=hT0
  have HI:Hid ((∀ x∈p,x.length=32)→∀ w1,IsTxt w1 (.slice a p.length cap) p→Calls Tryz.prog 56 #[.int .i64 N,.int .i64 I,.string ⟨s.toArray⟩,.slice a p.length cap] w1 fun e w'=>InRes w1 O e w'):=hIn
  have HF:Hid (∀ L,(∀ x∈p,x.length=32)→O=some L→L.length≤N∧0 < L.length∧∀ t∈L,t.length≤s.length+65):=hF
  clear hT hT0 hIn hF
  go_enter Tryz.func25,Tryz.ntmps25
  go_wp2_with fail
  go_loop [10] (fun j=>∃ k:Nat,k≤p.length∧j=.int .i64 k∧Hid (∀ x∈p.take k,x.length=32)) (fun j=>p.length - (RowKit.intOf j).toNat)
  case atStart=>exact ⟨0,Nat.zero_le _,rfl,fun x hx=>by simp at hx⟩
  case round =>
   obtain ⟨k,hk,rfl,HA⟩:=hrel
   by_cases hlt:k < p.length
   ·have j0:(k:Int) < (p.length:Int):=by omega
    obtain ⟨b,off,rfl,hblt,c0⟩:=HC.out k hlt
    by_cases h32:p[k].length=32
    ·have j1:((p[k].length:Int) != 32)=false:=by rw [h32];rfl
     have HA':Hid (∀ x∈p.take (k+1),x.length=32):=by
      intro x hx
      rw [List.take_succ_eq_append_getElem hlt] at hx
      rcases List.mem_append.1 hx with h | h
      ·exact HA.out x h
      ·rw [List.mem_singleton] at h;rw [h];exact h32
     obtain ⟨pk,hpk⟩:∃ pk,p[k]=pk:=⟨_,rfl⟩
     rw [hpk] at c0 h32 j1
     clear hpk
     go_wp2_with fail
     refine ⟨?relA,?measureA⟩
     case relA=>exact ⟨k+1,by omega,by go_num,HA'⟩
     case measureA=>simp [RowKit.intOf];omega
    ·have j1:((p[k].length:Int) != 32)=true:=by rw [bne_iff_ne];omega
     have HE:Hid (C=([],14)):=H32.out k hlt h32
     obtain ⟨pk,hpk⟩:∃ pk,p[k]=pk:=⟨_,rfl⟩
     rw [hpk] at c0 h32 j1
     have j2:¬ (pk.length:Int)=32:=by omega
     clear hpk
     go_wp2_with fail
     go_ret2
     refine ⟨.slice none 0 0,?_,Below.refl _ _,?_⟩
     ·rw [HE.out];rfl
     ·rw [HE.out];exact World.ownsRow_nil _ _ _ _
   ·obtain rfl:k=p.length:=by omega
    have hall:∀ x∈p,x.length=32:=by
     have h:=HA.out
     rwa [List.take_of_length_le (Nat.le_refl _)] at h
    have hI:=HI.out hall w HT.out
    have HIN':=HIN.out hall
    have hF':=fun L h=>HF.out L hall h
    have HN:Hid (C=clEnd sumL N O):=HIN'
    have HFF:Hid (∀ L,O=some L→L.length≤N∧0 < L.length∧∀ t∈L,t.length≤s.length+65):=hF'
    clear HI HIN HF HIN' hF' hall HA HC HT H32
    obtain ⟨q,hq⟩:∃ q,p.length=q:=⟨_,rfl⟩
    simp only [hq] at hI hlt hk h1 h3 ⊢
    clear hq
    go_wp2_with fail
    refine hI.mono ?_
    rintro e w2 hres
    obtain ⟨r,ok,rfl,hb2,hres⟩:=hres
    have hs2:=hb2.size
    rcases hres with ⟨hO,rfl⟩ | ⟨L,hO,rfl,hown⟩
    ·have HE:Hid (C=([],14)):=by have:=HN.out;rw [hO] at this;exact this
     go_wp2_with fail
     go_ret2
     refine ⟨.slice none 0 0,?_,hb2,?_⟩
     ·rw [HE.out];rfl
     ·rw [HE.out];exact World.ownsRow_nil _ _ _ _
    ·obtain ⟨f1,f2,f3⟩:=HFF.out L hO
     have hLl:=f3 _ (last_mem L f2)
     have hLe:=last_get L f2
     have hX:=IsTxt.own hown (by omega) (fun t ht=>by have:=f3 t ht;omega)
     obtain ⟨g,goff,gcap,rfl,hglt,gc1,gc2,gn,GC⟩:=hX.at f2
     have d0:w2.cell? ⟨g,goff+(L.length - 1),none⟩=some (.string ⟨(L.getLastD []).toArray⟩):=by rw [hLe];exact GC.out (L.length - 1) (by omega)
     have HE:Hid (C=(L++[rootI N (sumL (L.getLastD []))],0)):=by have:=HN.out;rw [hO] at this;exact this
     have hS:=fun w1=>rsumL_any (L.getLastD []) (by omega) w1
     have lx:=sumL_len (L.getLastD [])
     obtain ⟨u,hu⟩:∃ u,L.getLastD []=u:=⟨_,rfl⟩
     rw [hu] at d0 HE hS lx
     obtain ⟨x,hx⟩:∃ x,sumL u=x:=⟨_,rfl⟩
     rw [hx] at HE hS lx
     have hR:=fun w1=>rrootIn_any N (by omega) x (by omega) w1
     obtain ⟨R,hRR⟩:∃ R,rootI N x=R:=⟨_,rfl⟩
     rw [hRR] at hR HE
     obtain ⟨d,hd⟩:∃ d,L.length=d:=⟨_,rfl⟩
     have own2:=hown
     simp only [hd] at own2 d0 f1 f2 gc1 gn ⊢
     clear hu hx hRR hX GC hLe hLl f3 hI hO hown HN HFF
     have v0:IntKind.i64.wrap ((d:Int) - 1)=(d:Int) - 1:=by rw [IntKind.wrap_i64];omega
     have v1:((d:Int) - 1).toNat=d - 1:=by omega
     have v2:(0:Int)≤(d:Int) - 1:=by omega
     have v3:(d:Int) - 1 < (d:Int):=by omega
     go_wp2_with fail
     refine (hS w2).mono ?_
     rintro e w3 ⟨rfl,hb3⟩
     go_wp2_with fail
     refine (hR w3).mono ?_
     rintro e w4 ⟨rfl,hb4⟩
     have hbw4:=bel_trans (bel_trans hb2 hb3) hb4
     have hs4:=hbw4.size
     have own4:w4.ownsRow w.heap.size 9 1 (.slice (some ⟨g,goff,none⟩) d gcap) d (strV L):=owns_below (owns_below own2 hb3) hb4
     go_wp2_with (at_builtin;refine wpList_append_own _ rfl _ _ 45 rfl w.heap.size 9 i0 (.string ByteArray.empty) 1 16 Tryz.underlying45 hi hz0 hz1 hz2 rfl (by decide) _ _ _ rfl (own4.alloc _) ⟨w4.heap.size,0,none⟩ 1 1 [.string ⟨R.toArray⟩] rfl rfl ?d1 ?d2 ?d3 ?d4 ?d5 ?_)
     case d1 =>
      intro j u hj
      match j,hj with
      | 0,hj=>simp at hj;subst hj;simp [Addr.add]
     case d2=>intro u hu;simp at hu;subst hu;rfl
     case d3=>unfold maxLen;omega
     case d4=>omega
     case d5=>simp;omega
     intro v' w5 own5 grow5 _
     have hbw5:Below w.heap.size w w5:=(hbw4.alloc hs4 _).grown grow5 (by simp;omega) (fun j hj=>(own4.lt j hj).1)
     have HO5:w5.ownsRow w.heap.size 9 1 v' (L++[R]).length (strV (L++[R])):=by
      rw [strV_snoc,List.length_append,hd]
      exact own5
     go_wp2_with fail
     go_ret2
     refine ⟨v',?_,hbw5,?_⟩
     ·rw [HE.out];rfl
     ·rw [HE.out];exact HO5
set_option maxHeartbeats 1000000 in
theorem runlike_any (a b:List UInt8) (ha:a.length≤1125899906842700) (hb:b.length≤1125899906842700) (w:World) :
 Calls Tryz.prog 60 #[.string ⟨a.toArray⟩,.string ⟨b.toArray⟩] w fun e w'=>e=.returned (unV (unL sumL a b))∧Below w.heap.size w w':=by
 by_cases hab:a=b
 ·subst hab
  rw [unL_eq]
  go_enter Tryz.func60,Tryz.ntmps60
  go_wp2_with fail
  go_ret3
  exact ⟨rfl,Below.refl _ _⟩
 ·have e1:(a==b)=false:=beq_eq_false_iff_ne.2 hab
  have S1:=fun w1=>rsumL_any a (by omega) w1
  have S2:=fun w1=>rsumL_any b (by omega) w1
  by_cases hs:sumL a=sumL b
  ·have HE:Hid (unL sumL a b=some (a,b)):=unL_some sumL a b hab hs
   rw [← hs] at S2
   obtain ⟨x,hx⟩:∃ x,sumL a=x:=⟨_,rfl⟩
   rw [hx] at S1 S2
   clear hs hx
   go_enter Tryz.func60,Tryz.ntmps60
   go_wp2_with fail
   refine (S1 w).mono ?_
   rintro e w1 ⟨rfl,hb1⟩
   go_wp2_with fail
   refine (S2 w1).mono ?_
   rintro e w2 ⟨rfl,hb2⟩
   go_wp2_with fail
   go_ret3
   exact ⟨by rw [HE.out];rfl,bel_trans hb1 hb2⟩
  ·have HE:Hid (unL sumL a b=none):=unL_ne sumL a b hs
   have e2:(sumL a==sumL b)=false:=beq_eq_false_iff_ne.2 hs
   obtain ⟨x,hx⟩:∃ x,sumL a=x:=⟨_,rfl⟩
   obtain ⟨y,hy⟩:∃ y,sumL b=y:=⟨_,rfl⟩
   rw [hx] at S1 e2
   rw [hy] at S2 e2
   clear hs hx hy
   go_enter Tryz.func60,Tryz.ntmps60
   go_wp2_with fail
   refine (S1 w).mono ?_
   rintro e w1 ⟨rfl,hb1⟩
   go_wp2_with fail
   refine (S2 w1).mono ?_
   rintro e w2 ⟨rfl,hb2⟩
   go_wp2_with fail
   go_ret3
   exact ⟨by rw [HE.out];rfl,bel_trans hb1 hb2⟩
theorem unV_form (O:Option (List UInt8 × List UInt8)):∃ (x y:List UInt8) (b:Bool),unV O=.tuple #[.string ⟨x.toArray⟩,.string ⟨y.toArray⟩,.bool b]:=by
 cases O with
 | none=>exact ⟨[],[],false,rfl⟩
 | some z=>exact ⟨z.1,z.2,true,rfl⟩
theorem climb_len (sm:List UInt8→List UInt8) (h32:∀ s,(sm s).length=32) (n i:Int) (a:List UInt8) (p:List (List UInt8)) (b:List UInt8) (q:List (List UInt8)) (h1:(climbL sm n i a p).2=0) (h2:(climbL sm n i b q).2=0):(climbL sm n i a p).1.length=(climbL sm n i b q).1.length:=by
 obtain ⟨hb,hp,x,hx,ex⟩:=climb_ok sm _ _ _ _ h1
 obtain ⟨_,hq,y,hy,ey⟩:=climb_ok sm _ _ _ _ h2
 have hL:=(inL_link sm h32 n.toNat n.toNat i.toNat a b p q x y rfl hp hq hx hy).1.1
 rw [ex,ey,List.length_append,List.length_append,hL];rfl
theorem backL_same (sm:List UInt8→List UInt8) (x y:List (List UInt8)) (k:Nat) (h1:k < x.length) (h2:k < y.length) (h:x[k]=y[k]):backL sm x y (k+1)=backL sm x y k:=by
 rw [backL,if_neg]
 rw [List.getD_eq_getElem?_getD,List.getD_eq_getElem?_getD,List.getElem?_eq_getElem h1,List.getElem?_eq_getElem h2]
 simp [h]
theorem backL_diff (sm:List UInt8→List UInt8) (x y:List (List UInt8)) (k:Nat) (h1:k < x.length) (h2:k < y.length) (h:x[k]≠y[k]):backL sm x y (k+1)=unL sm x[k] y[k]:=by
 have e1:x.getD k []=x[k]:=by rw [List.getD_eq_getElem?_getD,List.getElem?_eq_getElem h1];rfl
 have e2:y.getD k []=y[k]:=by rw [List.getD_eq_getElem?_getD,List.getElem?_eq_getElem h2];rfl
 rw [backL,e1,e2,if_pos h]
set_option maxRecDepth 100000 in
set_option maxHeartbeats 2000000 in
theorem rclash_any (n i:Int) (a:List UInt8) (ha:a.length≤1125899906842500) (p:List (List UInt8)) (va:Value) (b:List UInt8) (hb:b.length≤1125899906842500) (q:List (List UInt8)) (vb:Value) (w:World) (hTa:IsTxt w va p) (hTb:IsTxt w vb q) :
 Calls Tryz.prog 28 #[.int .i64 n,.int .i64 i,.string ⟨a.toArray⟩,va,.string ⟨b.toArray⟩,vb] w fun e w'=>e=.returned (unV (clashL sumL n i a p b q))∧Below w.heap.size w w':=by
 have C1:=fun w1 h=>rclimb_any n i a ha p va w1 h
 have C2:=fun w1 h=>rclimb_any n i b hb q vb w1 h
 have R1:=climb_rows sumL sumL_len n i a p
 have R2:=climb_rows sumL sumL_len n i b q
 have RL:=climb_len sumL sumL_len n i a p b q
 have HK:Hid (clashL sumL n i a p b q=if (climbL sumL n i a p).2≠0∨(climbL sumL n i b q).2≠0 then none else backL sumL (climbL sumL n i a p).1 (climbL sumL n i b q).1 (climbL sumL n i a p).1.length):=(rfl:_=_)
 obtain ⟨Ca,hCa⟩:∃ C,climbL sumL n i a p=C:=⟨_,rfl⟩
 obtain ⟨Cb,hCb⟩:∃ C,climbL sumL n i b q=C:=⟨_,rfl⟩
 rw [hCa] at C1 R1 RL HK
 rw [hCb] at C2 R2 RL HK
 obtain ⟨X,e1⟩:=Ca
 obtain ⟨Y,e2⟩:=Cb
 simp only at R1 R2 RL
 obtain ⟨O,hO⟩:∃ O,clashL sumL n i a p b q=O:=⟨_,rfl⟩
 rw [hO] at HK ⊢
 clear hO hCa hCb
 have C1':=C1 w hTa
 have hTb':=hTb
 obtain ⟨aa,capa,rfl,_,_,_⟩:=hTa.len
 obtain ⟨ab,capb,rfl,_,_,_⟩:=hTb.len
 have C2':Hid (∀ w1,Below w.heap.size w w1→Calls Tryz.prog 25 #[.int .i64 n,.int .i64 i,.string ⟨b.toArray⟩,.slice ab q.length capb] w1 fun e w'=>ClRes w1 (Y,e2) e w'):=fun w1 h=>C2 w1 (hTb'.below h)
 clear C1 C2 hTa hTb hTb'
 by_cases h1:e1=0
 ·subst h1
  by_cases h2:e2=0
  ·subst h2
   have hlen:=RL rfl rfl
   obtain ⟨f1,f2,f3⟩:=R1 rfl
   obtain ⟨g1,g2,g3⟩:=R2 rfl
   have HB:Hid (O=backL sumL X Y X.length):=by have:=HK.out;rw [if_neg (by simp)] at this;exact this
   clear HK R1 R2 RL
   go_enter Tryz.func28,Tryz.ntmps28
   go_wp2_with fail
   refine C1'.mono ?_
   rintro e w1 hres
   obtain ⟨r1,rfl,hb1,own1⟩:=hres
   go_wp2_with fail
   refine (C2'.out w1 hb1).mono ?_
   rintro e w2 hres
   obtain ⟨r2,rfl,hb2,own2⟩:=hres
   have hbw2:=bel_trans hb1 hb2
   have X1:IsTxt w2 r1 X:=(IsTxt.own own1 (by show X.length≤_;omega) (fun t ht=>by have:=f3 t ht;omega)).below hb2
   have Y1:IsTxt w2 r2 Y:=IsTxt.own own2 (by show Y.length≤_;omega) (fun t ht=>by have:=g3 t ht;omega)
   obtain ⟨bx,ox,cx,rfl,hbx,_,_,_,CX⟩:=X1.at f2
   obtain ⟨by',oy,cy,rfl,hby,_,_,_,CY⟩:=Y1.at g2
   have HXB:Hid (∀ t∈X,t.length≤1125899906842600):=fun t ht=>by have:=f3 t ht;omega
   have HYB:Hid (∀ t∈Y,t.length≤1125899906842600):=fun t ht=>by have:=g3 t ht;omega
   have HLen:Hid (X.length=Y.length):=hlen
   clear X1 Y1 own1 own2 f3 g3 C1' C2' hlen
   obtain ⟨d,hd⟩:∃ d,X.length=d:=⟨_,rfl⟩
   have hdy:Y.length=d:=by have:=HLen.out;omega
   have HD:Hid (X.length=d):=hd
   have HDY:Hid (Y.length=d):=hdy
   simp only [hd,hdy] at f1 f2 g1 g2 ⊢
   rw [hd] at HB
   clear hd hdy HLen
   have v0:IntKind.i64.wrap ((d:Int) - 1)=(d:Int) - 1:=by rw [IntKind.wrap_i64];omega
   go_wp2_with fail
   go_loopw [19] (fun k wr=>∃ j:Nat,j≤d∧k=.int .i64 ((j:Int) - 1)∧Hid (O=backL sumL X Y j)∧Below w.heap.size w wr∧Below w2.heap.size w2 wr) (fun k _=>(RowKit.intOf k+1).toNat)
   case atStart=>exact ⟨d,Nat.le_refl _,rfl,HB,hbw2,Below.refl _ _⟩
   case round =>
    obtain ⟨j,hj,rfl,HJ,hbw,hbv⟩:=hrel
    cases j with
    | zero =>
      have HE:Hid (O=none):=HJ.out
      go_wp2_with fail
      go_ret3
      exact ⟨by rw [HE.out];rfl,hbw⟩
    | succ m =>
      have hm1:m < X.length:=by have:=HD.out;omega
      have hm2:m < Y.length:=by have:=HDY.out;omega
      have c1:wr.cell? ⟨bx,ox+m,none⟩=some (.string ⟨X[m].toArray⟩):=(hbv.cell (p:=⟨bx,ox+m,none⟩) hbx).trans (CX.out m hm1)
      have c2:wr.cell? ⟨by',oy+m,none⟩=some (.string ⟨Y[m].toArray⟩):=(hbv.cell (p:=⟨by',oy+m,none⟩) hby).trans (CY.out m hm2)
      have xb:=HXB.out _ (List.getElem_mem hm1)
      have yb:=HYB.out _ (List.getElem_mem hm2)
      have hS:=backL_same sumL X Y m hm1 hm2
      have hDf:=backL_diff sumL X Y m hm1 hm2
      rw [show (((m+1:Nat)):Int) - 1=(m:Int) by omega]
      have k0:(m:Int) < (d:Int):=by omega
      have k1:IntKind.i64.wrap ((m:Int) - 1)=(m:Int) - 1:=by rw [IntKind.wrap_i64];omega
      obtain ⟨x,hx⟩:∃ x,X[m]=x:=⟨_,rfl⟩
      obtain ⟨y,hy⟩:∃ y,Y[m]=y:=⟨_,rfl⟩
      rw [hx] at c1 xb hS hDf
      rw [hy] at c2 yb hS hDf
      clear hx hy
      by_cases hxy:x=y
      ·have heb:(x==y)=true:=by rw [hxy];exact beq_self_eq_true y
       have HJ':Hid (O=backL sumL X Y m):=HJ.out.trans (hS hxy)
       clear hS hDf hxy
       go_wp2_with fail
       go_quiet (fail)
       go_wp2_with fail
       refine ⟨?relA,?measureA⟩
       case relA=>exact ⟨m,by omega,by first | rfl | go_num,HJ',below_drewN hbw _,below_drewN hbv _⟩
       case measureA=>simp [RowKit.intOf]
      ·have heb:(x==y)=false:=beq_eq_false_iff_ne.2 hxy
       have HJ':Hid (O=unL sumL x y):=HJ.out.trans (hDf hxy)
       have hU:=fun w1=>runlike_any x y (by omega) (by omega) w1
       rw [← HJ'.out] at hU
       obtain ⟨s,u,bb,hf⟩:=unV_form O
       rw [hf] at hU
       have HFF:Hid (unV O=.tuple #[.string ⟨s.toArray⟩,.string ⟨u.toArray⟩,.bool bb]):=hf
       clear hS hDf hxy hf
       go_wp2_with fail
       go_quiet (fail)
       go_wp2_with fail
       refine wp_region_any (by kernel_rfl) ?_
       change wpAny _ _ _ _ _ _ _ (World.drew _)
       refine wpAny_take (i:=0) (v:=.slice (some ⟨bx,ox,none⟩) d cx) rfl (by kernel_rfl) (by kernel_rfl) (by kernel_rfl) (fun _ _ _ h=>h) (Or.inl ⟨by rfl,fun w=>by go_simp⟩) ?_
       refine wpAny_take (i:=1) (v:=.int .i64 m) rfl (by kernel_rfl) (by kernel_rfl) (by kernel_rfl) (fun _ _ _ h=>h) (Or.inl ⟨by rfl,fun w=>by go_simp⟩) ?_
       refine wpAny_take (i:=2) (v:=.pointer (some ⟨bx,ox+m,none⟩)) rfl (by kernel_rfl) (by kernel_rfl) (by kernel_rfl) (fun _ _ _ h=>h) (Or.inl ⟨by rfl,fun w=>by go_simp⟩) ?_
       refine wpAny_take (i:=4) (v:=.slice (some ⟨by',oy,none⟩) d cy) rfl (by kernel_rfl) (by kernel_rfl) (by kernel_rfl) (fun _ _ _ h=>h) (Or.inl ⟨by rfl,fun w=>by go_simp⟩) ?_
       refine wpAny_take (i:=5) (v:=.int .i64 m) rfl (by kernel_rfl) (by kernel_rfl) (by kernel_rfl) (fun _ _ _ h=>h) (Or.inl ⟨by rfl,fun w=>by go_simp⟩) ?_
       refine wpAny_take (i:=6) (v:=.pointer (some ⟨by',oy+m,none⟩)) rfl (by kernel_rfl) (by kernel_rfl) (by kernel_rfl) (fun _ _ _ h=>h) (Or.inl ⟨by rfl,fun w=>by go_simp⟩) ?_
       refine wpAny_ready (rs:=[3,7]) (by kernel_rfl) (by simp) ?_
       refine AllReady.cons rfl (fun K' hK=>?_) ?_
       ·go_simp
        refine hK _ _ ?_
        clear hK K'
        refine wpAny_ready (rs:=[7]) (by kernel_rfl) (by simp) ?_
        refine AllReady.cons rfl (fun K' hK=>?_) AllReady.nil
        go_simp
        refine hK _ _ ?_
        clear hK K'
        refine wpAny_ready (rs:=[8]) (by kernel_rfl) (by simp) ?_
        refine AllReady.cons rfl (fun K' hK=>?_) AllReady.nil
        go_simp
        refine (hU _).mono ?_
        rintro e w5 ⟨rfl,hb5⟩
        refine hK _ _ ?_
        clear hK K'
        refine wpAny_take (i:=9) (v:=.string ⟨s.toArray⟩) rfl (by kernel_rfl) (by kernel_rfl) (by kernel_rfl) (fun _ _ _ h=>h) (Or.inl ⟨by rfl,fun w=>by go_simp⟩) ?_
        refine wpAny_take (i:=10) (v:=.string ⟨u.toArray⟩) rfl (by kernel_rfl) (by kernel_rfl) (by kernel_rfl) (fun _ _ _ h=>h) (Or.inl ⟨by rfl,fun w=>by go_simp⟩) ?_
        refine wpAny_take (i:=11) (v:=.bool bb) rfl (by kernel_rfl) (by kernel_rfl) (by kernel_rfl) (fun _ _ _ h=>h) (Or.inl ⟨by rfl,fun w=>by go_simp⟩) ?_
        refine any_seqI [12,13,14] [_,_,_] _ _ _ rfl (by kernel_rfl) ?_
        go_wp2_with fail
        go_ret3
        refine ⟨by rw [HFF.out];rfl,?_⟩
        exact bel_trans (below_drewN hbw _).drew hb5
       ·refine AllReady.cons rfl (fun K' hK=>?_) AllReady.nil
        go_simp
        refine hK _ _ ?_
        clear hK K'
        refine wpAny_ready (rs:=[3]) (by kernel_rfl) (by simp) ?_
        refine AllReady.cons rfl (fun K' hK=>?_) AllReady.nil
        go_simp
        refine hK _ _ ?_
        clear hK K'
        refine wpAny_ready (rs:=[8]) (by kernel_rfl) (by simp) ?_
        refine AllReady.cons rfl (fun K' hK=>?_) AllReady.nil
        go_simp
        refine (hU _).mono ?_
        rintro e w5 ⟨rfl,hb5⟩
        refine hK _ _ ?_
        clear hK K'
        refine wpAny_take (i:=9) (v:=.string ⟨s.toArray⟩) rfl (by kernel_rfl) (by kernel_rfl) (by kernel_rfl) (fun _ _ _ h=>h) (Or.inl ⟨by rfl,fun w=>by go_simp⟩) ?_
        refine wpAny_take (i:=10) (v:=.string ⟨u.toArray⟩) rfl (by kernel_rfl) (by kernel_rfl) (by kernel_rfl) (fun _ _ _ h=>h) (Or.inl ⟨by rfl,fun w=>by go_simp⟩) ?_
        refine wpAny_take (i:=11) (v:=.bool bb) rfl (by kernel_rfl) (by kernel_rfl) (by kernel_rfl) (fun _ _ _ h=>h) (Or.inl ⟨by rfl,fun w=>by go_simp⟩) ?_
        refine any_seqI [12,13,14] [_,_,_] _ _ _ rfl (by kernel_rfl) ?_
        go_wp2_with fail
        go_ret3
        refine ⟨by rw [HFF.out];rfl,?_⟩
        exact bel_trans (below_drewN hbw _).drew hb5
  ·have HE:Hid (O=none):=by have:=HK.out;rw [if_pos (Or.inr h2)] at this;exact this
   have i2:((e2:Int) != 0)=true:=by rw [bne_iff_ne];omega
   have i3:¬ (e2:Int)=0:=by omega
   clear HK R1 R2 RL
   go_enter Tryz.func28,Tryz.ntmps28
   go_wp2_with fail
   refine C1'.mono ?_
   rintro e w1 hres
   obtain ⟨r1,rfl,hb1,own1⟩:=hres
   go_wp2_with fail
   refine (C2'.out w1 hb1).mono ?_
   rintro e w2 hres
   obtain ⟨r2,rfl,hb2,own2⟩:=hres
   go_wp2_with fail
   go_ret3
   exact ⟨by rw [HE.out];rfl,bel_trans hb1 hb2⟩
 ·have HE:Hid (O=none):=by have:=HK.out;rw [if_pos (Or.inl h1)] at this;exact this
  have i2:((e1:Int) != 0)=true:=by rw [bne_iff_ne];omega
  have i3:¬ (e1:Int)=0:=by omega
  clear HK R1 R2 RL
  go_enter Tryz.func28,Tryz.ntmps28
  go_wp2_with fail
  refine C1'.mono ?_
  rintro e w1 hres
  obtain ⟨r1,rfl,hb1,own1⟩:=hres
  go_wp2_with fail
  refine (C2'.out w1 hb1).mono ?_
  rintro e w2 hres
  obtain ⟨r2,rfl,hb2,own2⟩:=hres
  go_wp2_with fail
  go_ret3
  exact ⟨by rw [HE.out];rfl,bel_trans hb1 hb2⟩
end Go.Proofs.YthamoeekiglphaaGreatDoor
namespace Go.Proofs.YthamoeekiglphaaGreatDoor
set_option maxRecDepth 100000
open Go.RowKit
set_option linter.unusedVariables false
theorem rsG_any (S:List UInt8) (hS:S.length≤9223372036854775000) (w:World) :
 Calls Tryz.prog 26 #[.string ⟨S.toArray⟩] w fun e w'=>e=.returned (.string ⟨(sumL S).toArray⟩)∧Below w.heap.size w w':=rsum_any S hS w
section
variable (sm:List UInt8→List UInt8)
theorem unL_mem (a b x y:List UInt8) (h:unL sm a b=some (x,y)):x=a∧y=b:=by
 unfold unL at h
 by_cases hc:a≠b∧sm a=sm b
 ·rw [if_pos hc] at h;cases h;exact ⟨rfl,rfl⟩
 ·rw [if_neg hc] at h;cases h
theorem getD_bound (x:List (List UInt8)) (B k:Nat) (h:∀ t∈x,t.length≤B):(x.getD k []).length≤B:=by
 rw [List.getD_eq_getElem?_getD]
 cases hx:x[k]? with
 | none=>simp
 | some t=>rw [Option.getD_some];exact h t (List.mem_of_getElem? hx)
theorem backL_bound (a b:List (List UInt8)) (B:Nat) (ha:∀ t∈a,t.length≤B) (hb:∀ t∈b,t.length≤B) (x y:List UInt8):∀ k,backL sm a b k=some (x,y)→x.length≤B∧y.length≤B
 | 0,h=>by cases h
 | k+1,h=>by
   rw [backL] at h
   by_cases hc:a.getD k []≠b.getD k []
   ·rw [if_pos hc] at h
    obtain ⟨rfl,rfl⟩:=unL_mem sm _ _ _ _ h
    exact ⟨getD_bound a B k ha,getD_bound b B k hb⟩
   ·rw [if_neg hc] at h;exact backL_bound a b B ha hb x y k h
end
end Go.Proofs.YthamoeekiglphaaGreatDoor
namespace Go.Proofs.YthamoeekiglphaaGreatDoor
set_option maxRecDepth 100000
open Go.RowKit
theorem clash_bound15 (n i:Int) (a:List UInt8) (ha:a.length≤1125899906842500) (p:List (List UInt8)) (b:List UInt8) (hb:b.length≤1125899906842500) (q:List (List UInt8)) (x y:List UInt8) (h:clashL sumL n i a p b q=some (x,y)):x.length≤1125899906842600∧y.length≤1125899906842600:=by
 unfold clashL at h
 by_cases hc:(climbL sumL n i a p).2≠0∨(climbL sumL n i b q).2≠0
 ·rw [if_pos hc] at h;cases h
 ·rw [if_neg hc] at h
  have r1:=(climb_rows sumL sumL_len32 n i a p (by omega)).2.2
  have r2:=(climb_rows sumL sumL_len32 n i b q (by omega)).2.2
  exact backL_bound sumL _ _ 1125899906842600 (fun t ht=>by have:=r1 t ht;omega) (fun t ht=>by have:=r2 t ht;omega) x y _ h
set_option linter.unusedVariables false
attribute [local go_sem] ba_size
abbrev zD15:Array Value:=#[.int .i64 0,.int .i64 0,.int .i64 0,.int .i64 0,.int .i64 0]
structure EdS (w W:World) (b c:Nat) (x y:Array Value):Prop where
 bel:Below w.heap.size w W
 xb:SBox W b 32 x
 yb:SBox W c 32 y
 hb:w.heap.size≤b
 hc:w.heap.size≤c
 ne:b≠c
theorem EdS.below {w W W':World} {b c:Nat} {x y:Array Value} (h:EdS w W b c x y) (hb:Below W.heap.size W W'):EdS w W' b c x y:=⟨bel_trans h.bel hb,h.xb.below hb,h.yb.below hb,h.hb,h.hc,h.ne⟩
theorem eds_xy {w W:World} (h:Below w.heap.size w W):EdS w ((W.alloc (.cells zD15 32)).alloc (.cells zD15 32)) W.heap.size (W.heap.size+1) zD15 zD15 :=
 ⟨(h.alloc h.size _).alloc (by simp;have:=h.size;omega) _,(SBox.new W _ _).alloc _,(by have:=SBox.new (W.alloc (.cells zD15 32)) 32 zD15;rw [World.size_alloc] at this;exact this),h.size,by have:=h.size;omega,by omega⟩
theorem eds_yx {w W:World} (h:Below w.heap.size w W):EdS w ((W.alloc (.cells zD15 32)).alloc (.cells zD15 32)) (W.heap.size+1) W.heap.size zD15 zD15 :=
 ⟨(h.alloc h.size _).alloc (by simp;have:=h.size;omega) _,(by have:=SBox.new (W.alloc (.cells zD15 32)) 32 zD15;rw [World.size_alloc] at this;exact this),(SBox.new W _ _).alloc _,by have:=h.size;omega,h.size,by omega⟩
theorem EdS.put1 {w W:World} {b c:Nat} {y:Array Value} (h:EdS w W b c zD15 y) (x0 x1 x2 x3 x4:Int):EdS w (putL W b 0 [.int .i64 x0,.int .i64 x1,.int .i64 x2,.int .i64 x3,.int .i64 x4]) b c #[.int .i64 x0,.int .i64 x1,.int .i64 x2,.int .i64 x3,.int .i64 x4] y:=by
 have K:=kept_putL (B:=b) [.int .i64 x0,.int .i64 x1,.int .i64 x2,.int .i64 x3,.int .i64 x4] 0 W
 exact ⟨h.bel.grown K h.bel.size (fun q h9=>by cases h9;exact h.hb),SBox.putL [.int .i64 x0,.int .i64 x1,.int .i64 x2,.int .i64 x3,.int .i64 x4] [] [.int .i64 0,.int .i64 0,.int .i64 0,.int .i64 0,.int .i64 0] W rfl h.xb,h.yb.kept15 K (fun e=>h.ne e.symm),h.hb,h.hc,h.ne⟩
theorem EdS.put2 {w W:World} {b c:Nat} {x:Array Value} (h:EdS w W b c x zD15) (y0 y1 y2 y3 y4:Int):EdS w (putL W c 0 [.int .i64 y0,.int .i64 y1,.int .i64 y2,.int .i64 y3,.int .i64 y4]) b c x #[.int .i64 y0,.int .i64 y1,.int .i64 y2,.int .i64 y3,.int .i64 y4]:=by
 have K:=kept_putL (B:=c) [.int .i64 y0,.int .i64 y1,.int .i64 y2,.int .i64 y3,.int .i64 y4] 0 W
 exact ⟨h.bel.grown K h.bel.size (fun q h9=>by cases h9;exact h.hc),h.xb.kept15 K h.ne,SBox.putL [.int .i64 y0,.int .i64 y1,.int .i64 y2,.int .i64 y3,.int .i64 y4] [] [.int .i64 0,.int .i64 0,.int .i64 0,.int .i64 0,.int .i64 0] W rfl h.yb,h.hb,h.hc,h.ne⟩
theorem ringB_no (l:List Pf) (level:Int) (r:List Ed) (k:Nat) (hk:k < r.length) (h:rgK l level r k=false):ringB l level r=false:=by
 unfold ringB rgU
 rw [all_no _ hk h,Bool.and_false]
theorem ringB_yes (l:List Pf) (level:Int) (r:List Ed) (h:∀ j,j < r.length→rgK l level r j=true):ringB l level r=decide ((r.length:Int) > 0):=by
 unfold ringB rgU
 rw [List.all_eq_true.2 (fun x hx=>h x (List.mem_range.1 hx)),Bool.and_true]
 cases r with
 | nil=>rfl
 | cons e r=>rw [decide_eq_true (List.cons_ne_nil e r),decide_eq_true (by simp)]
set_option maxHeartbeats 16000000 in
theorem pround15_any (l:List Pf) (v:Value) (w:World) (hP:IsPfs w v l) (level:Int) (r:List Ed) (vr:Value) (hR:IsEds w vr r) :
 Calls Tryz.prog 81 #[v,.int .i64 level,vr] w fun e w'=>e=.returned (.bool (ringB l level r))∧Below w.heap.size w w':=by
 have CE0:=fun (e:Ed) V (hV:Below w.heap.size w V)=>pedge15_any l v V (hP.below hV) e.1 e.2.1 e.2.2.1 e.2.2.2.1 e.2.2.2.2
 have N:=Lib.hid (ringB_no l level r)
 have Y:=Lib.hid (ringB_yes l level r)
 obtain ⟨a,cap,rfl,k1,k2,k3⟩:=hP.len
 obtain ⟨nn,hn⟩:∃ n,l.length=n:=⟨_,rfl⟩
 rw [hn] at k1 k3 CE0 ⊢
 have CE:=Lib.hid CE0
 obtain ⟨al,cl,rfl,p1,p2,p3,HC⟩:=IsEds.reads hR
 obtain ⟨m,hm⟩:∃ m,r.length=m:=⟨_,rfl⟩
 have HM:=Lib.hid hm
 have HRk:Hid (∀ k (hk:k < r.length),r.getD k (0,0,0,0,0)=r[k]):=fun k hk=>by rw [List.getD_eq_getElem?_getD,List.getElem?_eq_getElem hk];rfl
 obtain ⟨rr,hrr⟩:∃ b,ringB l level r=b:=⟨_,rfl⟩
 rw [hrr] at N Y ⊢
 rw [hm] at p1 p3 ⊢
 rw [hm] at Y
 clear CE0 hn hP hR hm hrr
 go_enter Tryz.func81,Tryz.ntmps81
 go_wp2_with fail
 go_loopw [12] (fun i wq=>∃ q:Nat,q≤m∧i=.int .i64 q∧Hid (∀ j,j < q→rgK l level r j=true)∧Below w.heap.size w wq) (fun i _=>m - (RowKit.intOf i).toNat)
 case atStart=>exact ⟨0,Nat.zero_le _,rfl,(fun j hj=>absurd hj (by omega)),Below.refl _ _⟩
 case round =>
  obtain ⟨q,hq,rfl,HB,hbq⟩:=hrel
  by_cases hlq:q < m
  ·have hq1:q < r.length:=by have:=HM.out;omega
   have h01:0 < r.length:=by omega
   have jq:(q:Int) < (m:Int):=by omega
   have jw:IntKind.i64.wrap ((q:Int)+1)=(q:Int)+1:=by rw [IntKind.wrap_i64];omega
   have km:¬ (m:Int)=0:=by omega
   have km2:¬ m=0:=by omega
   obtain ⟨s,hs,hsm,hnx⟩:∃ s:Nat,((q:Int)+1).tmod (m:Int)=(s:Int)∧s < m∧(q+1) % r.length=s:=by
    by_cases dn:q+1 < m
    ·refine ⟨q+1,?_,dn,by rw [HM.out];exact Nat.mod_eq_of_lt dn⟩
     rw [Int.tmod_eq_of_lt (by omega) (by omega)];omega
    ·refine ⟨0,?_,by omega,by rw [HM.out,show q+1=m by omega,Nat.mod_self]⟩
     have e:(q:Int)+1=(m:Int):=by omega
     rw [e,Int.tmod_self];rfl
   have hs1:s < r.length:=by have:=HM.out;omega
   have ks:(s:Int) < (m:Int):=by omega
   obtain ⟨bb,off,rfl,HQ⟩:=HC.out h01
   have HX:=Lib.hid (HQ.out q hq1)
   have HZ:=Lib.hid (HQ.out s hs1)
   have HK0:Hid (rgK l level r q=(edgeB l r[q]&&decide (r[q].2.2.1=r[s].2.1)&&!(decide (level=2)&&decide (r[q].1=3)&&decide (r[s].1=3)))):=by
    show _=_
    unfold rgK nxE
    rw [HRk.out q hq1,hnx,HRk.out s hs1]
   obtain ⟨⟨x0,x1,x2,x3,x4⟩,hx⟩:∃ x,r[q]=x:=⟨_,rfl⟩
   obtain ⟨⟨y0,y1,y2,y3,y4⟩,hy⟩:∃ x,r[s]=x:=⟨_,rfl⟩
   rw [hx] at HX HK0
   rw [hy] at HZ HK0
   obtain ⟨ok,hok⟩:∃ b,edgeB l (x0,x1,x2,x3,x4)=b:=⟨_,rfl⟩
   have HOK:=Lib.hid hok
   obtain ⟨t1,g1⟩:∃ b,(x2==y1)=b:=⟨_,rfl⟩
   obtain ⟨t2,g2⟩:∃ b,(level==2)=b:=⟨_,rfl⟩
   obtain ⟨t3,g3⟩:∃ b,(x0==3)=b:=⟨_,rfl⟩
   obtain ⟨t4,g4⟩:∃ b,(y0==3)=b:=⟨_,rfl⟩
   have HK:Hid (rgK l level r q=(ok&&t1&&!(t2&&t3&&t4))):=by show _=_;rw [HK0.out,hok,← g1,← g2,← g3,← g4];rfl
   have n1:(x2 != y1)=!t1:=by rw [← g1];rfl
   have HN1:Hid (rgK l level r q=false→rr=false):=fun h=>N.out q hq1 h
   have HB2:Hid (rgK l level r q=true→∀ j,j < q+1→rgK l level r j=true):=fun hh j hj=>by
    rcases Nat.lt_or_ge j q with hj2 | hj2
    ·exact HB.out j hj2
    ·obtain rfl:j=q:=by omega
     exact hh
   clear hx hy h01 hnx hs1 hq1 hok HK0 HQ
   go_upto_region 4 with fail
   go_cut [8,9] from 15 to 26 (fun s8 s9 W=>∃ b8 b9,s8=.pointer (some ⟨b8,0,none⟩)∧s9=.pointer (some ⟨b9,0,none⟩)∧EdS w W b8 b9 #[.int .i64 x0,.int .i64 x1,.int .i64 x2,.int .i64 x3,.int .i64 x4] #[.int .i64 y0,.int .i64 y1,.int .i64 y2,.int .i64 y3,.int .i64 y4])
   case first =>
    refine wp_region_any (by kernel_rfl) ?_
    change wpAny _ _ _ _ _ _ _ (World.drew _)
    generalize hwd:World.drew _=wd
    have T:Below w.heap.size w wd:=by rw [← hwd];exact hbq.drew
    clear hwd
    refine any_of_C (C:=fun V=>Below w.heap.size w V) 15 _ _ _ _ ?_
    refine takeD 0 (.slice (some ⟨bb,off,none⟩) m cl) rfl (by kernel_rfl) (fun _ _ _ h=>h) (fun V hV=>(by obtain ⟨u0,u1,u2,u3,u4⟩:=HX.out V hV;obtain ⟨v0,v1,v2,v3,v4⟩:=HZ.out V hV;simp only at u0 u1 u2 u3 u4 v0 v1 v2 v3 v4;go_simp)) ?_
    refine takeD 1 (.int .i64 (q:Int)) rfl (by kernel_rfl) (fun _ _ _ h=>h) (fun V hV=>(by obtain ⟨u0,u1,u2,u3,u4⟩:=HX.out V hV;obtain ⟨v0,v1,v2,v3,v4⟩:=HZ.out V hV;simp only at u0 u1 u2 u3 u4 v0 v1 v2 v3 v4;go_simp)) ?_
    refine takeD 2 (.pointer (some ⟨bb,off+q*5,none⟩)) rfl (by kernel_rfl) (fun _ _ _ h=>h) (fun V hV=>(by obtain ⟨u0,u1,u2,u3,u4⟩:=HX.out V hV;obtain ⟨v0,v1,v2,v3,v4⟩:=HZ.out V hV;simp only at u0 u1 u2 u3 u4 v0 v1 v2 v3 v4;go_simp)) ?_
    refine takeD 3 (.agg #[.int .i64 x0,.int .i64 x1,.int .i64 x2,.int .i64 x3,.int .i64 x4]) rfl (by kernel_rfl) (fun _ _ _ h=>h) (fun V hV=>(by obtain ⟨u0,u1,u2,u3,u4⟩:=HX.out V hV;obtain ⟨v0,v1,v2,v3,v4⟩:=HZ.out V hV;simp only at u0 u1 u2 u3 u4 v0 v1 v2 v3 v4;go_simp)) ?_
    refine takeD 4 (.slice (some ⟨bb,off,none⟩) m cl) rfl (by kernel_rfl) (fun _ _ _ h=>h) (fun V hV=>(by obtain ⟨u0,u1,u2,u3,u4⟩:=HX.out V hV;obtain ⟨v0,v1,v2,v3,v4⟩:=HZ.out V hV;simp only at u0 u1 u2 u3 u4 v0 v1 v2 v3 v4;go_simp)) ?_
    refine takeD 5 (.int .i64 (q:Int)) rfl (by kernel_rfl) (fun _ _ _ h=>h) (fun V hV=>(by obtain ⟨u0,u1,u2,u3,u4⟩:=HX.out V hV;obtain ⟨v0,v1,v2,v3,v4⟩:=HZ.out V hV;simp only at u0 u1 u2 u3 u4 v0 v1 v2 v3 v4;go_simp)) ?_
    refine takeD 6 (.int .i64 ((q:Int)+1)) rfl (by kernel_rfl) (fun _ _ _ h=>h) (fun V hV=>(by obtain ⟨u0,u1,u2,u3,u4⟩:=HX.out V hV;obtain ⟨v0,v1,v2,v3,v4⟩:=HZ.out V hV;simp only at u0 u1 u2 u3 u4 v0 v1 v2 v3 v4;go_simp)) ?_
    refine takeD 7 (.slice (some ⟨bb,off,none⟩) m cl) rfl (by kernel_rfl) (fun _ _ _ h=>h) (fun V hV=>(by obtain ⟨u0,u1,u2,u3,u4⟩:=HX.out V hV;obtain ⟨v0,v1,v2,v3,v4⟩:=HZ.out V hV;simp only at u0 u1 u2 u3 u4 v0 v1 v2 v3 v4;go_simp)) ?_
    refine takeD 8 (.int .i64 (m:Int)) rfl (by kernel_rfl) (fun _ _ _ h=>h) (fun V hV=>(by obtain ⟨u0,u1,u2,u3,u4⟩:=HX.out V hV;obtain ⟨v0,v1,v2,v3,v4⟩:=HZ.out V hV;simp only at u0 u1 u2 u3 u4 v0 v1 v2 v3 v4;go_simp)) ?_
    refine takeD 9 (.int .i64 (s:Int)) rfl (by kernel_rfl) (fun _ _ _ h=>h) (fun V hV=>(by obtain ⟨u0,u1,u2,u3,u4⟩:=HX.out V hV;obtain ⟨v0,v1,v2,v3,v4⟩:=HZ.out V hV;simp only at u0 u1 u2 u3 u4 v0 v1 v2 v3 v4;go_simp)) ?_
    refine takeD 10 (.pointer (some ⟨bb,off+s*5,none⟩)) rfl (by kernel_rfl) (fun _ _ _ h=>h) (fun V hV=>(by obtain ⟨u0,u1,u2,u3,u4⟩:=HX.out V hV;obtain ⟨v0,v1,v2,v3,v4⟩:=HZ.out V hV;simp only at u0 u1 u2 u3 u4 v0 v1 v2 v3 v4;go_simp)) ?_
    refine takeD 11 (.agg #[.int .i64 y0,.int .i64 y1,.int .i64 y2,.int .i64 y3,.int .i64 y4]) rfl (by kernel_rfl) (fun _ _ _ h=>h) (fun V hV=>(by obtain ⟨u0,u1,u2,u3,u4⟩:=HX.out V hV;obtain ⟨v0,v1,v2,v3,v4⟩:=HZ.out V hV;simp only at u0 u1 u2 u3 u4 v0 v1 v2 v3 v4;go_simp)) ?_
    refine fork2 (i:=12) (j:=13) (by kernel_rfl) (by kernel_rfl) T rfl rfl (fun K hK=>?_) (fun K hK=>?_)
    ·go_wp2_with fail
     refine consC (i:=13) (by kernel_rfl) (by kernel_rfl) (T.alloc T.size _) rfl (fun K hK=>?_)
     go_wp2_with fail
     have M:=eds_xy T
     clear T
     generalize World.alloc (World.alloc _ _) _=W2 at M ⊢
     have N1:=M.put1 x0 x1 x2 x3 x4
     have p0:=M.xb.cell 0 _ rfl
     have q0:=M.xb.frozen 0
     have p1:=M.xb.cell 1 _ rfl
     have q1:=M.xb.frozen 1
     have p2:=M.xb.cell 2 _ rfl
     have q2:=M.xb.frozen 2
     have p3:=M.xb.cell 3 _ rfl
     have q3:=M.xb.frozen 3
     have p4:=M.xb.cell 4 _ rfl
     have q4:=M.xb.frozen 4
     have HNN:=Lib.hid N1
     have HMB:=Lib.hid M.bel
     clear N1 M
     refine consC (i:=14) (by kernel_rfl) (by kernel_rfl) HMB.out rfl (fun K hK=>?_)
     go_wp2_with fail
     have N1:=HNN.out
     clear p0 p1 p2 p3 p4 q0 q1 q2 q3 q4 HNN HMB
     change EdS _ (World.setCell _ _ _) _ _ _ _ at N1
     generalize World.setCell _ _ _=WN at N1 ⊢
     have E9:=N1.put2 y0 y1 y2 y3 y4
     have p0:=N1.yb.cell 0 _ rfl
     have q0:=N1.yb.frozen 0
     have p1:=N1.yb.cell 1 _ rfl
     have q1:=N1.yb.frozen 1
     have p2:=N1.yb.cell 2 _ rfl
     have q2:=N1.yb.frozen 2
     have p3:=N1.yb.cell 3 _ rfl
     have q3:=N1.yb.frozen 3
     have p4:=N1.yb.cell 4 _ rfl
     have q4:=N1.yb.frozen 4
     have HE:=Lib.hid E9
     clear E9
     refine lastC (by kernel_rfl) (by kernel_rfl) N1.bel (of_decide_eq_true (by kernel_rfl)) ?_
     refine any_seqI [15] [_] _ _ _ rfl (by kernel_rfl) ?_
     clear N1
     go_wp2_with fail
     go_meet
     exact ⟨_,_,rfl,rfl,HE.out⟩
    ·go_wp2_with fail
     refine consC (i:=12) (by kernel_rfl) (by kernel_rfl) (T.alloc T.size _) rfl (fun K hK=>?_)
     go_wp2_with fail
     have M:=eds_yx T
     clear T
     generalize World.alloc (World.alloc _ _) _=W2 at M ⊢
     have N1:=M.put1 x0 x1 x2 x3 x4
     have p0:=M.xb.cell 0 _ rfl
     have q0:=M.xb.frozen 0
     have p1:=M.xb.cell 1 _ rfl
     have q1:=M.xb.frozen 1
     have p2:=M.xb.cell 2 _ rfl
     have q2:=M.xb.frozen 2
     have p3:=M.xb.cell 3 _ rfl
     have q3:=M.xb.frozen 3
     have p4:=M.xb.cell 4 _ rfl
     have q4:=M.xb.frozen 4
     have HNN:=Lib.hid N1
     have HMB:=Lib.hid M.bel
     clear N1 M
     refine consC (i:=14) (by kernel_rfl) (by kernel_rfl) HMB.out rfl (fun K hK=>?_)
     go_wp2_with fail
     have N1:=HNN.out
     clear p0 p1 p2 p3 p4 q0 q1 q2 q3 q4 HNN HMB
     change EdS _ (World.setCell _ _ _) _ _ _ _ at N1
     generalize World.setCell _ _ _=WN at N1 ⊢
     have E9:=N1.put2 y0 y1 y2 y3 y4
     have p0:=N1.yb.cell 0 _ rfl
     have q0:=N1.yb.frozen 0
     have p1:=N1.yb.cell 1 _ rfl
     have q1:=N1.yb.frozen 1
     have p2:=N1.yb.cell 2 _ rfl
     have q2:=N1.yb.frozen 2
     have p3:=N1.yb.cell 3 _ rfl
     have q3:=N1.yb.frozen 3
     have p4:=N1.yb.cell 4 _ rfl
     have q4:=N1.yb.frozen 4
     have HE:=Lib.hid E9
     clear E9
     refine lastC (by kernel_rfl) (by kernel_rfl) N1.bel (of_decide_eq_true (by kernel_rfl)) ?_
     refine any_seqI [15] [_] _ _ _ rfl (by kernel_rfl) ?_
     clear N1
     go_wp2_with fail
     go_meet
     exact ⟨_,_,rfl,rfl,HE.out⟩
   case rest =>
    obtain ⟨b8,b9,rfl,rfl,E⟩:=hcut
    clear hbq
    have c0:=E.xb.cell 0 _ rfl
    have c1:=E.xb.cell 1 _ rfl
    have c2:=E.xb.cell 2 _ rfl
    have c3:=E.xb.cell 3 _ rfl
    have c4:=E.xb.cell 4 _ rfl
    have d1:=E.yb.cell 1 _ rfl
    have Bc:=E.bel
    have HE:=Lib.hid E
    clear E
    cases t1 with
    | false =>
      have HF:Hid (rr=false):=HN1.out (by rw [HK.out];cases ok<;>rfl)
      simp only [Bool.not_false] at n1
      go_wp2_with fail
      go_ret
      exact ⟨by rw [HF.out];rfl,Bc⟩
    | true =>
      simp only [Bool.not_true] at n1
      have D:=CE.out (x0,x1,x2,x3,x4) _ Bc
      simp only at D
      rw [HOK.out] at D
      cases ok with
      | false =>
        have HF:Hid (rr=false):=HN1.out HK.out
        go_wp2_with fail
        refine D.mono ?_
        rintro e w1 ⟨rfl,b1⟩
        go_wp2_with fail
        go_ret
        exact ⟨by rw [HF.out];rfl,bel_trans Bc b1⟩
      | true =>
        go_upto_region 5 with fail
        go_wp2_with fail
        refine D.mono ?_
        rintro e w1 ⟨rfl,b1⟩
        have E1:=HE.out.below b1
        clear c0 c1 c2 c3 c4 d1 Bc HE b1 D
        have c0:=E1.xb.cell 0 _ rfl
        have d0:=E1.yb.cell 0 _ rfl
        have Bd:=E1.bel
        clear E1
        have H:(t2=true∧t3=true∧t4=true)∨t2=false∨(t2=true∧t3=false)∨(t2=true∧t3=true∧t4=false):=by cases t2<;>cases t3<;>cases t4<;>simp
        rcases H with ⟨rfl,rfl,rfl⟩ | rfl | ⟨rfl,rfl⟩ | ⟨rfl,rfl,rfl⟩
        ·have HF:Hid (rr=false):=HN1.out HK.out
         go_wp2_with fail
         go_ret
         exact ⟨by rw [HF.out];rfl,Bd⟩
        all_goals
         have HF:=Lib.hid (HB2.out HK.out)
         go_wp2_with fail
         refine ⟨⟨q+1,by omega,by first | go_num | simp,HF,Bd⟩,by simp [RowKit.intOf];omega⟩
  ·obtain rfl:q=m:=by omega
   have jq:¬ (q:Int) < (q:Int):=by omega
   have HF:Hid (rr=decide ((q:Int) > 0)):=Y.out HB.out
   obtain ⟨b,hb⟩:∃ b,decide (0 < q)=b:=⟨_,rfl⟩
   rw [show decide ((q:Int) > 0)=decide (0 < q) from decide_eq_decide.2 (by omega),hb] at HF
   go_wp2_with fail
   go_ret
   exact ⟨by rw [HF.out];rfl,hbq⟩
attribute [local go_sem] ba_size ba_get ba_extract take_drop_end wv_get wv_getE wv_set wv_size
set_option maxHeartbeats 1000000 in
theorem sum_any (S:List UInt8) (hS:S.length≤9223372036854775000) (w:World) (hG:G w) :
 Calls Tryz.prog 78 #[.string ⟨S.toArray⟩] w fun e w'=>e=.returned (.string ⟨(sumL S).toArray⟩)∧Below w.heap.size w w':=by
 have hg3:=hG.size
 obtain ⟨H,hH⟩:∃ H,startL 0=H:=⟨_,rfl⟩
 have lH:H.length=8:=by rw [← hH];rfl
 have hs:=start_good 0 (by omega) (by omega) w hG
 rw [hH] at hs
 have hsz:(Tryz.prog.info? 99).map (·.size)=some (wv H).size:=by rw [size8,wv_size,lH]
 go_enter Tryz.func78,Tryz.ntmps78
 go_wp2_with fail
 refine hs.mono ?_
 rintro e w1 ⟨rfl,hb1⟩
 go_upto_region 2 with (refine wpList_store_row rfl 99 _ _ rfl w1.heap.size (wv H) rfl rfl 99 (wv Z8) (heap_alloc_new w1 _) hsz (by rw [wv_size,wv_size,lH];rfl) (wv_one _) ?_)
 change Code.wp _ _ _ _ ((w1.alloc (.cells (wv Z8) 99)).setRow w1.heap.size (wv H))
 obtain ⟨w2,hw2⟩:∃ w2,(w1.alloc (.cells (wv Z8) 99)).setRow w1.heap.size (wv H)=w2:=⟨_,rfl⟩
 have hrow2:w2.heap[w1.heap.size]?=some (.cells (wv H) 99 (0,0)):=by rw [← hw2];exact setRow_heap _ _ _ _ _ _ (heap_alloc_new w1 _)
 have hb2:Below w.heap.size w w2:=by rw [← hw2];exact below_setRow (hb1.alloc hb1.size _) hb1.size _
 have hG2:G w2:=hG.below hb2 hg3
 rw [hw2]
 clear hw2
 go_wp2_with (refine wpList_load_row rfl 99 _ rfl w1.heap.size rfl 99 (wv H) (0,0) _ hrow2 Tryz.underlying99 rfl hsz ?_)
 refine (fold_any H lH S hS _ hG2).mono ?_
 rintro e w3 ⟨rfl,hb3⟩
 go_wp2_with fail
 go_ret
 exact ⟨by unfold sumL;rw [hH];rfl,hb2.trans (hb3.mono hb2.size)⟩
end Go.Proofs.YthamoeekiglphaaGreatDoor
namespace Go.Proofs.YthamoeekiglphaaGreatDoor
set_option maxRecDepth 100000
open Go.RowKit
set_option linter.unusedVariables false
attribute [local go_sem] ba_size ba_get ba_extract ba_append take_drop_end
theorem psumL_any (S:List UInt8) (hS:S.length≤9223372036854775000) (w:World) (hG:G w) :
 Calls Tryz.prog 78 #[.string ⟨S.toArray⟩] w fun e w'=>e=.returned (.string ⟨(sumL S).toArray⟩)∧Below w.heap.size w w':=sum_any S hS w hG
set_option maxHeartbeats 400000 in
theorem pleafIn_any (s:List UInt8) (hs:s.length≤1125899906842624) (w:World) :
 Calls Tryz.prog 130 #[.string ⟨s.toArray⟩] w fun e w'=>e=.returned (.string ⟨(leafI s).toArray⟩)∧w'=w:=by
 go_enter Tryz.func130,Tryz.ntmps130
 go_wp2
 go_ret
 exact ⟨rfl,rfl⟩
set_option maxHeartbeats 400000 in
theorem pnodeIn_any (a b:List UInt8) (ha:a.length≤1125899906842624) (hb:b.length≤1125899906842624) (w:World) :
 Calls Tryz.prog 132 #[.string ⟨a.toArray⟩,.string ⟨b.toArray⟩] w fun e w'=>e=.returned (.string ⟨(nodeI a b).toArray⟩)∧w'=w:=by
 have h1:1+a.length+b.length≤9223372036854775807:=by omega
 go_enter Tryz.func132,Tryz.ntmps132
 go_wp2
 go_ret
 exact ⟨rfl,rfl⟩
set_option maxHeartbeats 400000 in
theorem prootIn_any (n:Nat) (hn:n≤140737488351232) (c:List UInt8) (hc:c.length≤32) (w:World) :
 Calls Tryz.prog 133 #[.int .i64 n,.string ⟨c.toArray⟩] w fun e w'=>e=.returned (.string ⟨(rootI n c).toArray⟩)∧Below w.heap.size w w':=by
 have x1:IntKind.u64.wrap (n:Int)=n:=by rw [IntKind.wrap_u64];omega
 have hl:=Lm.numL_length n
 have hcn:Lm.cnt n≤8:=Lm.cnt_le n
 obtain ⟨N,hN⟩:∃ N,Lm.numL n=N:=⟨_,rfl⟩
 have hc1:=num_any n (by omega) w
 rw [hN] at hc1 hl
 have hl1:1+N.length≤9223372036854775807:=by omega
 have hl2:1+N.length+c.length≤9223372036854775807:=by omega
 go_enter Tryz.func133,Tryz.ntmps133
 go_wp2_with fail
 refine hc1.mono ?_
 rintro e w1 ⟨rfl,hb1⟩
 go_wp2_with fail
 go_ret
 exact ⟨by unfold rootI;rw [hN];rfl,hb1⟩
set_option maxHeartbeats 400000 in
theorem pisPlace_any (n i:Int) (w:World) :
 Calls Tryz.prog 128 #[.int .i64 n,.int .i64 i] w fun e w'=>e=.returned (.bool (decide (0≤i∧i < n)))∧w'=w:=by
 by_cases h0:0≤i
 ·have h1:decide (0≤i∧i < n)=decide (i < n):=by simp [h0]
  rw [h1]
  clear h1
  go_enter Tryz.func128,Tryz.ntmps128
  go_wp2
  go_ret
  exact ⟨rfl,rfl⟩
 ·have h1:decide (0≤i∧i < n)=false:=by simp [h0]
  rw [h1]
  clear h1
  go_enter Tryz.func128,Tryz.ntmps128
  go_wp2
  go_ret
  exact ⟨rfl,rfl⟩
def ln (x:Nat):Nat:=if x=0 then 0 else x.log2+1
theorem hf_ln:∀ n,n < 4097→2≤n→hf n=2 ^ (ln (n - 1) - 1)∧1≤ln (n - 1)∧ln (n - 1)≤12:=by decide +kernel
end Go.Proofs.YthamoeekiglphaaGreatDoor
namespace Go.Proofs.YthamoeekiglphaaGreatDoor
set_option maxRecDepth 100000
open Go.RowKit
set_option linter.unusedVariables false
theorem tab_at:∀ x,x < 256→(Lib.len8tab[x]?.getD 0).toNat=ln x∧ln x≤8:=by decide +kernel
theorem tab_eq:Lib.len8tab.size=256:=by decide +kernel
theorem tab_get (x:Nat) (h:x < Lib.len8tab.size):(Lib.len8tab[x]'h).toNat=ln x:=by
 have hx:x < 256:=by rw [← tab_eq];exact h
 have:=(tab_at x hx).1
 rw [getElem?_pos Lib.len8tab x h] at this
 exact this
theorem tab_ret (x:Nat) (h:x < Lib.len8tab.size):wrap64 (wrap64 ((Lib.len8tab[x]'h).toNat:Int))=ln x:=by
 have hx:x < 256:=by rw [← tab_eq];exact h
 have:=(tab_at x hx).2
 rw [tab_get];unfold wrap64;omega
attribute [local go_sem] ba_size ba_get in
set_option maxHeartbeats 1000000 in
theorem plen64_small (x:Nat) (hx:x < 256) (w:World) :
 Calls Tryz.prog 151 #[.int .u64 x] w fun e w'=>e=.returned (.int .i64 (ln x))∧w'=w:=by
 have i0:decide ((4294967296:Int)≤(x:Int))=false:=decide_eq_false (by omega)
 have i1:decide ((65536:Int)≤(x:Int))=false:=decide_eq_false (by omega)
 have i2:decide ((256:Int)≤(x:Int))=false:=decide_eq_false (by omega)
 go_enter Tryz.func151,Tryz.ntmps151
 go_wp2
 go_ret
 refine ⟨?_,rfl⟩
 simp only [tab_ret]
 rfl
theorem ln_256:∀ x,x < 4096→256≤x→ln x=8+ln (x / 256)∧ln x≤12:=by decide +kernel
set_option maxHeartbeats 1000000 in
theorem plen64_int (x:Int) (h1:256≤x) (hx:x < 4096) (w:World) :
 Calls Tryz.prog 151 #[.int .u64 x] w fun e w'=>e=.returned (.int .i64 (ln x.toNat))∧w'=w:=by
 have i0:decide ((4294967296:Int)≤x)=false:=decide_eq_false (by omega)
 have i1:decide ((65536:Int)≤x)=false:=decide_eq_false (by omega)
 have i2:decide ((256:Int)≤x)=true:=decide_eq_true h1
 have hb:(x / 256).toNat < Lib.len8tab.size:=by rw [tab_eq];omega
 go_enter Tryz.func151,Tryz.ntmps151
 go_wp2
 go_ret
 refine ⟨congrArg Ending.returned (congrArg (Value.int IntKind.i64) ?_),rfl⟩
 simp only [tab_get]
 have e:(x / 256).toNat=x.toNat / 256:=by omega
 have l:=ln_256 x.toNat (by omega) (by omega)
 rw [e]
 unfold wrap64;omega
theorem plen64_any (x:Nat) (hx:x < 4096) (w:World) :
 Calls Tryz.prog 151 #[.int .u64 x] w fun e w'=>e=.returned (.int .i64 (ln x))∧w'=w:=by
 by_cases h:x < 256
 ·exact plen64_small x h w
 ·exact plen64_int (x:Int) (by omega) (by omega) w
set_option maxHeartbeats 400000 in
theorem plen_any (x:Nat) (hx:x < 4096) (w:World) :
 Calls Tryz.prog 149 #[.int .u64 x] w fun e w'=>e=.returned (.int .i64 (ln x))∧w'=w:=by
 go_enter Tryz.func149,Tryz.ntmps149
 go_wp2_with fail
 refine (plen64_any x hx w).mono ?_
 rintro e w1 ⟨rfl,rfl⟩
 go_wp2_with fail
 go_ret
 exact ⟨rfl,rfl⟩
theorem shl_ln:∀ a:Nat,a < 12→wrap64 (2 ^ a)=((2 ^ a:Nat):Int):=by decide +kernel
set_option maxHeartbeats 400000 in
theorem phalf_any (n:Nat) (h2:2≤n) (hn:n≤4096) (w:World) :
 Calls Tryz.prog 147 #[.int .i64 n] w fun e w'=>e=.returned (.int .i64 (hf n))∧w'=w:=by
 obtain ⟨e1,e2,e3⟩:=hf_ln n (by omega) h2
 have hL:=plen_any (n - 1) (by omega) w
 rw [show (((n - 1:Nat)):Int)=(n:Int) - 1 by omega] at hL
 obtain ⟨a,ha⟩:∃ a,ln (n - 1)=a+1:=⟨ln (n - 1) - 1,by omega⟩
 rw [ha] at hL e1 e2 e3
 rw [Nat.add_sub_cancel] at e1
 rw [e1]
 have x0:IntKind.i64.wrap ((n:Int) - 1)=(n:Int) - 1:=by rw [IntKind.wrap_i64];omega
 have x1:IntKind.u64.wrap ((n:Int) - 1)=(n:Int) - 1:=by rw [IntKind.wrap_u64];omega
 clear e1 ha
 go_enter Tryz.func147,Tryz.ntmps147
 go_wp2_with fail
 refine hL.mono ?_
 rintro e w1 ⟨rfl,rfl⟩
 go_wp2_with fail
 go_ret
 exact ⟨congrArg Ending.returned (congrArg (Value.int IntKind.i64) (shl_ln a (by omega))),rfl⟩
end Go.Proofs.YthamoeekiglphaaGreatDoor
namespace Go.Proofs.YthamoeekiglphaaGreatDoor
set_option maxRecDepth 100000
open Go.RowKit Go.Shelf
set_option linter.unusedVariables false
attribute [local go_sem] Oper.semAt_some
theorem room_of_none {F:Fence} (hd:F.depth=none) (k:Nat):F.room k:=fun d h=>by rw [hd] at h;cases h
theorem round_anyDepth {F:Fence} (hd:F.depth=none) {m m':Nat} {P:Program} {l:Nat} {f:FuncId} {tmps:Array Value} {assign body:Code} {w:World} {R:Ending→World→Prop}
 (h:RoundIn F m P l f tmps assign body w R):RoundIn F m' P l f tmps assign body w R:=⟨h.1,fun c cs _=>h.2 c cs (room_of_none hd _)⟩
theorem yield_anyDepth {F:Fence} (hd:F.depth=none) {m:Nat} (m':Nat) {P:Program} {l:Nat} {args:Array Value} {W:World} {R:Ending→World→Prop} (h:YieldAt F m P l args W R):YieldAt F m' P l args W R:=by
 obtain ⟨fn,tmps,assign,body,hy,hR⟩:=h
 exact ⟨fn,tmps,assign,body,hy,round_anyDepth hd hR⟩
abbrev sideV {n:Nat} (x:Side n):Array Value:=#[.agg #[.int .i64 x.a,.int .i64 x.b,.bool x.r]]
set_option maxHeartbeats 2000000 in
theorem tell_in (l n N:Nat) (hn:n≤4096) (J Jx:List (Side n)→World→Prop)
 (hY:∀ m pre x W,J pre W→pre.length < N→YieldAt Fence.wide m Tryz.prog l (sideV x) W fun e W'=>(e=.returned (.bool true)∧J (pre++[x]) W')∨(e=.returned (.bool false)∧Jx (pre++[x]) W')) :
 ∀ (d a b i:Nat) (h:b≤n) (k:Nat) (pre:List (Side n)) (W:World),b - a=d→a≤b→i≤4096→J pre W→pre.length+(sidesS n a b i h).length≤N →
   CallsIn Fence.wide k Tryz.prog 140 #[.int .i64 a,.int .i64 b,.int .i64 i,.func (.yield l) #[] #[]] W fun e W' =>
    (e=.returned (.bool true)∧J (pre++sidesS n a b i h) W')∨(e=.returned (.bool false)∧∃ q,q <+: sidesS n a b i h∧Jx (pre++q) W'):=by
 intro d
 induction d using Nat.strongRecOn with
 | _ d ih =>
   intro a b i h k pre W hd hab hi4 hJ hN
   have hdd:∀ k:Nat,(Fence.wide.depth.isSome=true→1≤k):=fun k h=>by cases h
   have x0:IntKind.i64.wrap ((b:Int) - (a:Int))=(b:Int) - (a:Int):=by rw [IntKind.wrap_i64];omega
   by_cases h1:b - a≤1
   ·have HE:Hid (sidesS n a b i h=[]):=sidesS_nil n a b i h h1
    have i0:(b:Int) - (a:Int)≤1:=by omega
    clear ih hN hd
    refine callsIn_of_wp Tryz.func140 rfl trivial ?_ rfl
    simp only [Tryz.ntmps140,List.size_toArray,List.length_cons,List.length_nil,Nat.reduceAdd,Nat.reduceSub,Array.replicate_succ,Array.replicate_zero,List.push_toArray,List.append_toArray,List.nil_append,List.cons_append]
    gi_wp2
    go_ret
    exact .inl ⟨rfl,by rw [HE.out,List.append_nil];exact hJ⟩
   ·have hm:=mid_le a b h1
    have hps:=hf_pos (b - a)
    have hH:=fun w1=>phalf_any (b - a) (by omega) (by omega) w1
    rw [show (((b - a:Nat)):Int)=(b:Int) - (a:Int) by omega] at hH
    have i0:¬ (b:Int) - (a:Int)≤1:=by omega
    by_cases hi:i < a+hf (b - a)
    ·have HE:Hid (sidesS n a b i h=sidesS n a (a+hf (b - a)) i (by omega)++[⟨a+hf (b - a),b,true,by omega,h⟩]):=sidesS_left n a b i h h1 hi _ _
     rw [HE.out] at hN
     have ih1:=ih (hf (b - a)) (by omega) a (a+hf (b - a)) i (by omega) (k - 1) pre W (by omega) (by omega) hi4 hJ (by simp at hN;omega)
     have hy2:=fun W1 (hJ1:J (pre++sidesS n a (a+hf (b - a)) i (by omega)) W1)=>hY (k - 1) _ ⟨a+hf (b - a),b,true,by omega,h⟩ W1 hJ1 (by simp at hN ⊢;omega)
     obtain ⟨X,hX⟩:∃ X,sidesS n a (a+hf (b - a)) i (by omega)=X:=⟨_,rfl⟩
     rw [hX] at HE ih1 hy2
     obtain ⟨s,hs⟩:∃ s:Side n,s=⟨a+hf (b - a),b,true,by omega,h⟩:=⟨_,rfl⟩
     rw [← hs] at HE hy2
     have hy3:∀ W1,J (pre++X) W1→YieldAt Fence.wide (k - 1) Tryz.prog l #[.agg #[.int .i64 ((a:Int)+(hf (b - a):Int)),.int .i64 b,.bool true]] W1 fun e W'=>(e=.returned (.bool true)∧J (pre++X++[s]) W')∨(e=.returned (.bool false)∧Jx (pre++X++[s]) W'):=fun W1 hJ1=>by
      have:=hy2 W1 hJ1
      rw [hs] at this ⊢
      exact this
     clear hy2 hs hX ih hd hN
     rw [show (((a+hf (b - a):Nat)):Int)=(a:Int)+(hf (b - a):Int) by omega] at ih1
     have j0:(i:Int) < (a:Int)+(hf (b - a):Int):=by omega
     have x1:IntKind.i64.wrap ((a:Int)+(hf (b - a):Int))=(a:Int)+(hf (b - a):Int):=by rw [IntKind.wrap_i64];omega
     obtain ⟨m,hmm⟩:∃ m,hf (b - a)=m:=⟨_,rfl⟩
     rw [hmm] at hH ih1 hy3 j0 x1
     have ih1':=ih1.mono (R':=fun e W1=>(e=.returned (.bool true)∧YieldAt Fence.wide (k - 1) Tryz.prog l #[.agg #[.int .i64 ((a:Int)+(m:Int)),.int .i64 b,.bool true]] W1 fun e W'=>(e=.returned (.bool true)∧J (pre++X++[s]) W')∨(e=.returned (.bool false)∧Jx (pre++X++[s]) W'))∨(e=.returned (.bool false)∧∃ q,q <+: X∧Jx (pre++q) W1))
      (fun e W1 h=>h.elim (fun ⟨he,hj⟩=>.inl ⟨he,hy3 W1 hj⟩) .inr)
     clear ih1 hy3 hmm
     refine callsIn_of_wp Tryz.func140 rfl trivial ?_ rfl
     simp only [Tryz.ntmps140,List.size_toArray,List.length_cons,List.length_nil,Nat.reduceAdd,Nat.reduceSub,Array.replicate_succ,Array.replicate_zero,List.push_toArray,List.append_toArray,List.nil_append,List.cons_append]
     gi_wp2_with (first
      | ((try refine ⟨trivial,hdd _,?_⟩);gi_at_call 147;refine (callsIn_wide.2 (hH _)).mono ?_;rintro e w1 ⟨rfl,rfl⟩)
      | ((try refine ⟨trivial,hdd _,?_⟩);gi_at_call 140;refine ih1'.mono ?_;clear ih1';rintro e W1 (⟨rfl,fn,tmps,assign,body,hy,hR⟩ | ⟨rfl,q,hq,hx1⟩))
      | ((try refine ⟨hdd _,?_⟩);refine hR.mono ?_;clear hR;rintro e W2 (⟨rfl,hJ2⟩ | ⟨rfl,hx2⟩)))
     ·go_ret
      exact .inl ⟨rfl,by rw [HE.out,← List.append_assoc];exact hJ2⟩
     ·go_ret
      exact .inr ⟨rfl,X++[s],by rw [HE.out];exact List.prefix_refl _,by rw [← List.append_assoc];exact hx2⟩
     ·refine ⟨fun _ h=>(by cases h),?_⟩
      gi_wp2
      go_ret
      exact .inr ⟨rfl,q,by rw [HE.out];exact hq.trans (List.prefix_append _ _),hx1⟩
    ·have HE:Hid (sidesS n a b i h=sidesS n (a+hf (b - a)) b i h++[⟨a,a+hf (b - a),false,by omega,by omega⟩]):=sidesS_right n a b i h h1 hi _ _
     rw [HE.out] at hN
     have ih1:=ih (b - (a+hf (b - a))) (by omega) (a+hf (b - a)) b i h (k - 1) pre W rfl (by omega) hi4 hJ (by simp at hN;omega)
     have hy2:=fun W1 (hJ1:J (pre++sidesS n (a+hf (b - a)) b i h) W1)=>hY (k - 1) _ ⟨a,a+hf (b - a),false,by omega,by omega⟩ W1 hJ1 (by simp at hN ⊢;omega)
     obtain ⟨X,hX⟩:∃ X,sidesS n (a+hf (b - a)) b i h=X:=⟨_,rfl⟩
     rw [hX] at HE ih1 hy2
     obtain ⟨s,hs⟩:∃ s:Side n,s=⟨a,a+hf (b - a),false,by omega,by omega⟩:=⟨_,rfl⟩
     rw [← hs] at HE hy2
     have hy3:∀ W1,J (pre++X) W1→YieldAt Fence.wide (k - 1) Tryz.prog l #[.agg #[.int .i64 a,.int .i64 ((a:Int)+(hf (b - a):Int)),.bool false]] W1 fun e W'=>(e=.returned (.bool true)∧J (pre++X++[s]) W')∨(e=.returned (.bool false)∧Jx (pre++X++[s]) W'):=fun W1 hJ1=>by
      have:=hy2 W1 hJ1
      rw [hs] at this ⊢
      exact this
     clear hy2 hs hX ih hd hN
     rw [show (((a+hf (b - a):Nat)):Int)=(a:Int)+(hf (b - a):Int) by omega] at ih1
     have j0:¬ (i:Int) < (a:Int)+(hf (b - a):Int):=by omega
     have x1:IntKind.i64.wrap ((a:Int)+(hf (b - a):Int))=(a:Int)+(hf (b - a):Int):=by rw [IntKind.wrap_i64];omega
     obtain ⟨m,hmm⟩:∃ m,hf (b - a)=m:=⟨_,rfl⟩
     rw [hmm] at hH ih1 hy3 j0 x1
     have ih1':=ih1.mono (R':=fun e W1=>(e=.returned (.bool true)∧YieldAt Fence.wide (k - 1) Tryz.prog l #[.agg #[.int .i64 a,.int .i64 ((a:Int)+(m:Int)),.bool false]] W1 fun e W'=>(e=.returned (.bool true)∧J (pre++X++[s]) W')∨(e=.returned (.bool false)∧Jx (pre++X++[s]) W'))∨(e=.returned (.bool false)∧∃ q,q <+: X∧Jx (pre++q) W1))
      (fun e W1 h=>h.elim (fun ⟨he,hj⟩=>.inl ⟨he,hy3 W1 hj⟩) .inr)
     clear ih1 hy3 hmm
     refine callsIn_of_wp Tryz.func140 rfl trivial ?_ rfl
     simp only [Tryz.ntmps140,List.size_toArray,List.length_cons,List.length_nil,Nat.reduceAdd,Nat.reduceSub,Array.replicate_succ,Array.replicate_zero,List.push_toArray,List.append_toArray,List.nil_append,List.cons_append]
     gi_wp2_with (first
      | ((try refine ⟨trivial,hdd _,?_⟩);gi_at_call 147;refine (callsIn_wide.2 (hH _)).mono ?_;rintro e w1 ⟨rfl,rfl⟩)
      | ((try refine ⟨trivial,hdd _,?_⟩);gi_at_call 140;refine ih1'.mono ?_;clear ih1';rintro e W1 (⟨rfl,fn,tmps,assign,body,hy,hR⟩ | ⟨rfl,q,hq,hx1⟩))
      | ((try refine ⟨hdd _,?_⟩);refine hR.mono ?_;clear hR;rintro e W2 (⟨rfl,hJ2⟩ | ⟨rfl,hx2⟩)))
     ·go_ret
      exact .inl ⟨rfl,by rw [HE.out,← List.append_assoc];exact hJ2⟩
     ·go_ret
      exact .inr ⟨rfl,X++[s],by rw [HE.out];exact List.prefix_refl _,by rw [← List.append_assoc];exact hx2⟩
     ·refine ⟨fun _ h=>(by cases h),?_⟩
      gi_wp2
      go_ret
      exact .inr ⟨rfl,q,by rw [HE.out];exact hq.trans (List.prefix_append _ _),hx1⟩
abbrev sidesF (bN bI:Nat):Value:=.func (.func 139) #[] #[.pointer (some ⟨bN,0,none⟩),.pointer (some ⟨bI,0,none⟩)]
set_option maxHeartbeats 1000000 in
theorem sides1_in (l n i:Nat) (hn:n≤4096) (hi:i≤4096) (bN bI k:Nat) (J Jx:List (Side n)→World→Prop)
 (hY:∀ pre x W,J pre W→pre.length < (sidesS n 0 n i (Nat.le_refl _)).length→YieldAt Fence.wide (k - 1) Tryz.prog l (sideV x) W fun e W'=>(e=.returned (.bool true)∧J (pre++[x]) W'∧True)∨(e=.returned (.bool false)∧Jx (pre++[x]) W'))
 (W:World) (cN:W.cell? ⟨bN,0,none⟩=some (.int .i64 n)) (cI:W.cell? ⟨bI,0,none⟩=some (.int .i64 i)) (h0:J [] W) :
 CallsIn Fence.wide k Tryz.prog 139 #[.func (.yield l) #[] #[],.pointer (some ⟨bN,0,none⟩),.pointer (some ⟨bI,0,none⟩)] W fun e W'=>(∃ v,e=.returned v) ∧
  ((∃ ys,ys=sidesS n 0 n i (Nat.le_refl _)∧J ys W')∨(∃ pre,pre <+: sidesS n 0 n i (Nat.le_refl _)∧Jx pre W')):=by
 have hdd:∀ k:Nat,(Fence.wide.depth.isSome=true→1≤k):=fun k h=>by cases h
 have hp:=tell_in l n (sidesS n 0 n i (Nat.le_refl _)).length hn J Jx (fun m pre x W hj hl=>yield_anyDepth rfl m ((hY pre x W hj hl).mono fun e W' h=>h.elim (fun h=>.inl ⟨h.1,h.2.1⟩) .inr)) (n - 0) 0 n i (Nat.le_refl _) (k - 1) [] W rfl (by omega) hi h0 (by simp)
 rw [List.nil_append] at hp
 refine callsIn_of_wp Tryz.func139 rfl trivial ?_ rfl
 simp only [Tryz.ntmps139,List.size_toArray,List.length_cons,List.length_nil,Nat.reduceAdd,Nat.reduceSub,Array.replicate_succ,Array.replicate_zero,List.push_toArray,List.append_toArray,List.nil_append,List.cons_append]
 gi_wp2_with ((try refine ⟨trivial,hdd _,?_⟩);gi_at_call 140;refine hp.mono ?_;clear hp;rintro e W1 (⟨rfl,hJ1⟩ | ⟨rfl,q,hq,hx⟩))
 ·go_end0
  exact ⟨⟨_,rfl⟩,.inl ⟨_,rfl,hJ1⟩⟩
 ·go_end0
  exact ⟨⟨_,rfl⟩,.inr ⟨q,hq,by simpa using hx⟩⟩
theorem sides_stops (n i:Nat) (hn:n≤4096) (hi:i≤4096) (bN bI k:Nat) (w:World) (lN:bN < w.heap.size) (lI:bI < w.heap.size) (cN:w.cell? ⟨bN,0,none⟩=some (.int .i64 n)) (cI:w.cell? ⟨bI,0,none⟩=some (.int .i64 i)) :
 SeqStopsK Fence.wide k Tryz.prog 139 #[.pointer (some ⟨bN,0,none⟩),.pointer (some ⟨bI,0,none⟩)] (fun x:Side n=>sideV x) (fun _ _=>True) (fun ys=>ys=sidesS n 0 n i (Nat.le_refl _)) (fun pre=>pre <+: sidesS n 0 n i (Nat.le_refl _)) (sidesS n 0 n i (Nat.le_refl _)).length w :=
 fun l J Jx W hW _ _ hY h0=>sides1_in l n i hn hi bN bI k J Jx hY W ((hW.cell (p:=⟨bN,0,none⟩) lN).trans cN) ((hW.cell (p:=⟨bI,0,none⟩) lI).trans cI) h0
set_option maxHeartbeats 400000 in
theorem sides_any (n i:Int) (w:World) :
 Calls Tryz.prog 131 #[.int .i64 n,.int .i64 i] w fun e w'=>e=.returned (sidesF w.heap.size (w.heap.size+1))∧w'=(w.alloc (.cells #[.int .i64 n] 3)).alloc (.cells #[.int .i64 i] 3):=by
 go_enter Tryz.func131,Tryz.ntmps131
 go_wp2
 go_ret
 exact ⟨rfl,rfl⟩
end Go.Proofs.YthamoeekiglphaaGreatDoor
namespace Go.Proofs.YthamoeekiglphaaGreatDoor
set_option maxRecDepth 100000
open Go.RowKit Go.Shelf
set_option linter.unusedVariables false
attribute [local go_sem] Oper.semAt_some ba_size
set_option maxHeartbeats 2000000 in
theorem pfits_any (n i:Nat) (hn:n≤4096) (hi:i < n) (p:List (List UInt8)) (v:Value) (w:World) (hT:IsTxt w v p) :
 Calls Tryz.prog 129 #[.int .i64 n,.int .i64 i,v] w fun e w'=>e=.returned (.bool (decide (p.length=(sidesS n 0 n i (Nat.le_refl _)).length∧∀ x∈p,x.length=32)))∧Below w.heap.size w w':=by
 have hT0:=hT
 have hN:=sidesS_le n (n - 0) 0 n i (Nat.le_refl _) rfl
 have hst:=fun W lN lI cN cI=>sides_stops n i hn (by omega) (w.heap.size+1) (w.heap.size+1+1) (3 - 1) W lN lI cN cI
 obtain ⟨a,cap,rfl,h1,h2,h3⟩:=hT.len
 obtain ⟨N,hNN⟩:∃ N,(sidesS n 0 n i (Nat.le_refl _)).length=N:=⟨_,rfl⟩
 rw [hNN] at hN hst ⊢
 obtain ⟨R,hR⟩:∃ R:Bool,decide (p.length=N∧∀ x∈p,x.length=32)=R:=⟨_,rfl⟩
 rw [hR]
 have HR:Hid (decide (p.length=N∧∀ x∈p,x.length=32)=R):=hR
 clear hR
 refine (callsIn_wide (n:=3)).1 ?_
 refine callsIn_of_wp_marks Tryz.func129 rfl trivial ?_ rfl
 simp only [Tryz.ntmps129,List.size_toArray,List.length_cons,List.length_nil,Nat.reduceAdd,Nat.reduceSub,Array.replicate_succ,Array.replicate_zero,List.push_toArray,List.append_toArray,List.nil_append,List.cons_append]
 gi_wp2_with ((try refine ⟨trivial,?_⟩);gi_at_call 131;refine (callsIn_wide.2 (sides_any _ _ _)).mono ?_;rintro e w1 ⟨rfl,rfl⟩)
 have bM:Boxed (((w.alloc (.cells #[.int .i64 0] 3)).alloc (.cells #[.int .i64 n] 3)).alloc (.cells #[.int .i64 i] 3)) w.heap.size 3 (.int .i64 0):=((Boxed.new w 3 (.int .i64 0)).alloc _).alloc _
 have bN:Boxed (((w.alloc (.cells #[.int .i64 0] 3)).alloc (.cells #[.int .i64 n] 3)).alloc (.cells #[.int .i64 i] 3)) (w.heap.size+1) 3 (.int .i64 n):=by
  have:=(Boxed.new (w.alloc (.cells #[.int .i64 0] 3)) 3 (.int .i64 n)).alloc (.cells #[.int .i64 i] 3)
  rwa [World.size_alloc] at this
 have bI:Boxed (((w.alloc (.cells #[.int .i64 0] 3)).alloc (.cells #[.int .i64 n] 3)).alloc (.cells #[.int .i64 i] 3)) (w.heap.size+1+1) 3 (.int .i64 i):=by
  have:=Boxed.new ((w.alloc (.cells #[.int .i64 0] 3)).alloc (.cells #[.int .i64 n] 3)) 3 (.int .i64 i)
  rwa [World.size_alloc,World.size_alloc] at this
 have hB0:Below w.heap.size w (((w.alloc (.cells #[.int .i64 0] 3)).alloc (.cells #[.int .i64 n] 3)).alloc (.cells #[.int .i64 i] 3)):=(((Below.refl _ w).alloc (Nat.le_refl _) _).alloc (by simp) _).alloc (by simp;omega) _
 refine wpIn_rangeFunc_ownG rfl (by omega) (gf:=139) (lb:=#[.pointer (some ⟨w.heap.size+1,0,none⟩),.pointer (some ⟨w.heap.size+1+1,0,none⟩)]) rfl trivial (enters_of Tryz.func139 (by kernel_rfl) rfl)
  (hst _ bN.lt bI.lt bN.cell bI.cell) (fun _ _=>trivial) (fun _ _ _ _ _ _ _ _=>trivial) (Below.refl _ _) (fun _=>rfl)
  (fun pre W=>Boxed W w.heap.size 3 (.int .i64 (pre.length:Nat))∧Below w.heap.size w W)
  (fun _ _ _=>False)
  (OwnFrom.and (Own.from (boxed_own w.heap.size 3 (fun pre:List (Side n)=>.int .i64 (pre.length:Nat))) _) (ownFrom_below (Nat.le_refl _) (by simp;omega)))
  (fun _ _ _ _ _ hs _ _=>hs)
  ⟨bM,hB0⟩
  (fun x=>{ tmps:=#[.int .i64 n,.int .i64 i,.slice a p.length cap,undef,undef,undef,.bool false,.pointer (some ⟨w.heap.size,0,none⟩),undef,undef,.int .i64 n,.int .i64 i,sidesF (w.heap.size+1) (w.heap.size+1+1),.agg #[.int .i64 x.a,.int .i64 x.b,.bool x.r],undef,undef,undef,undef,undef,undef,undef,undef,undef,undef,undef,undef,undef,undef,undef,undef],defers:=[] }) ?assign ?body ?done ?stop
 case assign =>
  intro l x W K hK
  gi_wp2
  simpa using hK
 case body =>
  rintro l pre x W ⟨hb,hB⟩ hlt
  have hc:=hb.cell
  have hf:=hb.frozen
  have x1:IntKind.i64.wrap ((pre.length:Int)+1)=(pre.length:Int)+1:=by rw [IntKind.wrap_i64];omega
  gi_wp2
  refine ⟨(KeepsOthers.setCell _ _ _).from _,trivial,?_,hB.setCell (p:=⟨w.heap.size,0,none⟩) (Nat.le_refl _) _⟩
  have:=hb.set (.int .i64 ((pre.length:Int)+1))
  rw [List.length_append]
  exact this
 case done =>
  rintro D ys W hD rfl ⟨hb,hB⟩ hK
  rw [hNN] at hb
  have hc:=hb.cell
  have hbD:Below w.heap.size w (W.putObj D (.deferred none)):=hB.trans (belowK_b (w:=w) (Nat.le_refl _) W D _ _ (by simp at hD;omega) hK rfl rfl)
  by_cases hl:p.length=N
  ·have HT:=hT0.below hB
   have hA:p.length=0∨∃ b off,a=some ⟨b,off,none⟩∧Hid (∀ j (h:j < p.length),W.cell? ⟨b,off+j,none⟩=some (.string ⟨p[j].toArray⟩)):=by
    by_cases h0:p.length=0
    ·exact .inl h0
    ·obtain ⟨b,off,cap',hv,_,_,_,_,HC⟩:=HT.at (by omega)
     simp only [Value.slice.injEq] at hv
     exact .inr ⟨b,off,hv.1,HC⟩
   have i0:((p.length:Int)==(N:Int))=true:=by rw [hl];simp
   have HL:Hid (p.length=N):=hl
   clear hl hT hT0 HT
   gi_wp2
   gi_loopw [22] (fun iv wr=>∃ k:Nat,iv=.int .i64 k∧k≤p.length∧Hid (∀ j (h:j < p.length),j < k→(p[j]'h).length=32)∧wr=W) (fun iv _=>p.length - (RowKit.intOf iv).toNat)
   case atStart=>exact ⟨0,rfl,by omega,fun j h hj=>by omega,rfl⟩
   case round =>
    obtain ⟨k,rfl,hk,H32,rfl⟩:=hrel
    by_cases hkl:k < p.length
    ·rcases hA with hA | ⟨b,off,rfl,HC⟩
     ·omega
     ·have c0:=HC.out k hkl
      have j0:(k:Int) < (p.length:Int):=by omega
      have x1:IntKind.i64.wrap ((k:Int)+1)=(k:Int)+1:=by rw [IntKind.wrap_i64];omega
      by_cases h32:(p[k]'hkl).length=32
      ·have H32':Hid (∀ j (h:j < p.length),j < k+1→(p[j]'h).length=32):=by
        intro j h hj
        by_cases hjk:j=k
        ·subst hjk;exact h32
        ·exact H32.out j h (by omega)
       have i1:(((p[k]'hkl).length:Int)==32)=true:=by rw [h32];rfl
       gi_wp2
       go_roundw
       case rel=>exact ⟨k+1,by first | rfl | go_num | simp,by omega,H32',by first | trivial | rfl⟩
       case measure=>simp [RowKit.intOf];omega
      ·have i1:(((p[k]'hkl).length:Int)==32)=false:=by rw [beq_eq_false_iff_ne];omega
       have HE:Hid (decide (p.length=N∧∀ x∈p,x.length=32)=false):=decide_eq_false fun h=>h32 (h.2 _ (List.getElem_mem hkl))
       gi_wp2
       refine ⟨by simp,.inl ⟨_,_,rfl,run_takeDeferred hK,?_⟩⟩
       exact ⟨_,results_tmp rfl _ _ _,by rw [← HR.out,HE.out];rfl,hbD⟩
    ·have j0:¬ (k:Int) < (p.length:Int):=by omega
     have HE:Hid (decide (p.length=N∧∀ x∈p,x.length=32)=true):=decide_eq_true ⟨HL.out,fun x hx=>by
      obtain ⟨j,hj,rfl⟩:=List.getElem_of_mem hx
      exact H32.out j hj (by omega)⟩
     gi_wp2
     refine ⟨by simp,.inl ⟨_,_,rfl,run_takeDeferred hK,?_⟩⟩
     exact ⟨_,results_tmp rfl _ _ _,by rw [← HR.out,HE.out];rfl,hbD⟩
  ·have HE:Hid (decide (p.length=N∧∀ x∈p,x.length=32)=false):=decide_eq_false fun h=>hl h.1
   have i0:((p.length:Int)==(N:Int))=false:=by rw [beq_eq_false_iff_ne];omega
   gi_wp2
   refine ⟨by simp,.inl ⟨_,_,rfl,run_takeDeferred hK,?_⟩⟩
   exact ⟨_,results_tmp rfl _ _ _,by rw [← HR.out,HE.out];rfl,hbD⟩
 case stop =>
  rintro D c pre W _ _ h _
  exact h.elim
end Go.Proofs.YthamoeekiglphaaGreatDoor
