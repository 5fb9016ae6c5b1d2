/-
  What tree.Climb and tree.Check answer.
-/
import Derived.Test.YthamoeekiglphaaGreatDoorEP3Climb
namespace Go.Proofs.YthamoeekiglphaaGreatDoor
set_option maxRecDepth 100000
open Go.RowKit
set_option linter.unusedVariables false
attribute [local go_sem] ba_size
theorem climbL_bad (sm:List UInt8→List UInt8) (n i:Int) (s:List UInt8) (p:List (List UInt8)) (h:n < 1∨4096 < n∨i < 0∨n≤i):climbL sm n i s p=([],1):=by unfold climbL;rw [if_pos h]
theorem pclimb_any (n i:Int) (s:List UInt8) (hs:s.length≤1125899906842500) (p:List (List UInt8)) (v:Value) (w:World) (hG:G w) (hT:IsTxt w v p) :
 Calls Tryz.prog 110 #[sumF,.int .i64 n,.int .i64 i,.string ⟨s.toArray⟩,v] w fun e w'=>ClRes w (climbL sumL n i s p) e w':=by
 by_cases hb:n < 1∨4096 < n∨i < 0∨n≤i
 ·rw [climbL_bad sumL n i s p hb]
  refine (pclimb_arg n i s v p w hT hb).mono ?_;rintro e w1 ⟨rfl,hb1⟩;exact ⟨_,rfl,hb1,World.ownsRow_nil _ _ _ _⟩
 ·obtain ⟨N,rfl⟩:∃ N:Nat,n=N:=⟨n.toNat,by omega⟩
  obtain ⟨I,rfl⟩:∃ I:Nat,i=I:=⟨i.toNat,by omega⟩
  by_cases hf:p.length=(sidesS N 0 N I (Nat.le_refl _)).length∧∀ x∈p,x.length=32
  ·exact pclimb_ok N I (by omega) (by omega) (by omega) s hs v p w hG hT hf.1 hf.2
  ·rw [climbL_no sumL N I (by omega) (by omega) (by omega) s p hf]
   refine (pclimb_no N I (by omega) (by omega) (by omega) s v p w hT hf).mono ?_;rintro e w1 ⟨rfl,hb1⟩;exact ⟨_,rfl,hb1,World.ownsRow_nil _ _ _ _⟩
set_option maxHeartbeats 400000 in
theorem pClimb_any (n i:Int) (s:List UInt8) (hs:s.length≤1125899906842500) (p:List (List UInt8)) (v:Value) (w:World) (hG:G w) (hT:IsTxt w v p) :
 Calls Tryz.prog 77 #[.int .i64 n,.int .i64 i,.string ⟨s.toArray⟩,v] w fun e w'=>ClRes w (climbL sumL n i s p) e w':=by
 have hC:=pclimb_any n i s hs p v w hG hT;obtain ⟨C,hCC⟩:∃ C,climbL sumL n i s p=C:=⟨_,rfl⟩;rw [hCC] at hC ⊢;obtain ⟨a,cap,rfl,h1,h2,h3⟩:=hT.len;clear hCC hT;go_enter Tryz.func77,Tryz.ntmps77
 go_wp2_with fail
 refine hC.mono ?_;rintro e w1 hres;obtain ⟨r,rfl,hb1,hown⟩:=hres;go_wp2_with fail
 go_ret2
 exact ⟨r,rfl,hb1,hown⟩
set_option maxHeartbeats 1000000 in
theorem pcheck_any (root:List UInt8) (n i:Int) (s:List UInt8) (hs:s.length≤1125899906842500) (p:List (List UInt8)) (v:Value) (w:World) (hG:G w) (hT:IsTxt w v p) :
 Calls Tryz.prog 35 #[.string ⟨root.toArray⟩,.int .i64 n,.int .i64 i,.string ⟨s.toArray⟩,v] w fun e w'=>e=.returned (.int .i64 (checkL sumL root n i s p:Int))∧Below w.heap.size w w':=by
 have hC:=pClimb_any n i s hs p v w hG hT;have HK:Hid (checkL sumL root n i s p=if (climbL sumL n i s p).2≠0 then (climbL sumL n i s p).2 else if sumL ((climbL sumL n i s p).1.getLastD [])≠root then 13 else 0):=(rfl:_=_);have hR:=climb_rows sumL sumL_len32 n i s p;obtain ⟨C,hCC⟩:∃ C,climbL sumL n i s p=C:=⟨_,rfl⟩;rw [hCC] at hC HK hR;obtain ⟨a,cap,rfl,h1,h2,h3⟩:=hT.len;clear hCC hT;obtain ⟨L,bad⟩:=C;simp only at hR
 by_cases hb:bad=0
 ·subst hb
  obtain ⟨f1,f2,f3⟩:=hR rfl;have HK2:Hid (checkL sumL root n i s p=if sumL (L.getLastD [])≠root then 13 else 0):=by have:=HK.out;rw [if_neg (by simp)] at this;exact this
  clear HK hR;have hLl:=f3 _ (last_mem L f2);have hLe:=last_get L f2;have S1:=fun w1 h=>psumL_any (L.getLastD []) (by omega) w1 h
  by_cases hrt:sumL (L.getLastD [])=root
  ·have HE:Hid (checkL sumL root n i s p=0):=by have:=HK2.out;rw [if_neg (fun h=>h hrt)] at this;exact this
   rw [hrt] at S1;clear HK2 hrt;go_enter Tryz.func35,Tryz.ntmps35
   go_wp2_with fail
   refine hC.mono ?_;rintro e w1 hres;obtain ⟨r,rfl,hb1,hown⟩:=hres;have hX:IsTxt w1 r L:=IsTxt.own hown (by show L.length≤_;omega) (fun t ht=>by have:=f3 t ht;omega);obtain ⟨g,goff,gcap,rfl,hglt,gc1,gc2,gn,GC⟩:=hX.at f2;have d0:w1.cell? ⟨g,goff+(L.length - 1),none⟩=some (.string ⟨(L.getLastD []).toArray⟩):=by rw [hLe];exact GC.out (L.length - 1) (by omega)
   obtain ⟨u,hu⟩:∃ u,L.getLastD []=u:=⟨_,rfl⟩;rw [hu] at d0 S1;obtain ⟨d,hd⟩:∃ d,L.length=d:=⟨_,rfl⟩;simp only [hd] at d0 f1 f2 gc1 gn ⊢;clear hu hX GC hLe hLl f3 hC hown hd;have v0:IntKind.i64.wrap ((d:Int) - 1)=(d:Int) - 1:=by rw [IntKind.wrap_i64];omega
   have v1:((d:Int) - 1).toNat=d - 1:=by omega
   have v2:(0:Int)≤(d:Int) - 1:=by omega
   have v3:(d:Int) - 1 < (d:Int):=by omega
   go_wp2_with fail
   refine (S1 w1 (hG.below hb1 hG.size)).mono ?_;rintro e w2 ⟨rfl,hb2⟩;go_wp2_with fail
   go_ret
   exact ⟨by rw [HE.out];rfl,bel_trans hb1 hb2⟩
  ·have HE:Hid (checkL sumL root n i s p=13):=by have:=HK2.out;rw [if_pos hrt] at this;exact this
   have e2:(sumL (L.getLastD [])==root)=false:=beq_eq_false_iff_ne.2 hrt;obtain ⟨x,hx⟩:∃ x,sumL (L.getLastD [])=x:=⟨_,rfl⟩;rw [hx] at S1 e2;clear HK2 hrt hx;go_enter Tryz.func35,Tryz.ntmps35
   go_wp2_with fail
   refine hC.mono ?_;rintro e w1 hres;obtain ⟨r,rfl,hb1,hown⟩:=hres;have hX:IsTxt w1 r L:=IsTxt.own hown (by show L.length≤_;omega) (fun t ht=>by have:=f3 t ht;omega);obtain ⟨g,goff,gcap,rfl,hglt,gc1,gc2,gn,GC⟩:=hX.at f2;have d0:w1.cell? ⟨g,goff+(L.length - 1),none⟩=some (.string ⟨(L.getLastD []).toArray⟩):=by rw [hLe];exact GC.out (L.length - 1) (by omega)
   obtain ⟨u,hu⟩:∃ u,L.getLastD []=u:=⟨_,rfl⟩;rw [hu] at d0 S1;obtain ⟨d,hd⟩:∃ d,L.length=d:=⟨_,rfl⟩;simp only [hd] at d0 f1 f2 gc1 gn ⊢;clear hu hX GC hLe hLl f3 hC hown hd;have v0:IntKind.i64.wrap ((d:Int) - 1)=(d:Int) - 1:=by rw [IntKind.wrap_i64];omega
   have v1:((d:Int) - 1).toNat=d - 1:=by omega
   have v2:(0:Int)≤(d:Int) - 1:=by omega
   have v3:(d:Int) - 1 < (d:Int):=by omega
   go_wp2_with fail
   refine (S1 w1 (hG.below hb1 hG.size)).mono ?_;rintro e w2 ⟨rfl,hb2⟩;go_wp2_with fail
   go_ret
   exact ⟨by rw [HE.out];rfl,bel_trans hb1 hb2⟩
 ·have HE:Hid (checkL sumL root n i s p=bad):=by have:=HK.out;rw [if_pos hb] at this;exact this
  have i1:((bad:Int) != 0)=true:=by rw [bne_iff_ne];omega
  have i2:¬ (bad:Int)=0:=by omega
  clear HK hR;go_enter Tryz.func35,Tryz.ntmps35
  go_wp2_with fail
  refine hC.mono ?_;rintro e w1 hres;obtain ⟨r,rfl,hb1,hown⟩:=hres;go_wp2_with fail
  go_ret
  exact ⟨by rw [HE.out];rfl,hb1⟩
end Go.Proofs.YthamoeekiglphaaGreatDoor
