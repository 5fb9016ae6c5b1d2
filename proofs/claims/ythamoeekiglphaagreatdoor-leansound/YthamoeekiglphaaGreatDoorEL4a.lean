/-
  What cartoucheref03.unlike and Check answer. What cartoucheref03.Clash answers. How long the two texts are that come to light.
-/
import Derived.Test.YthamoeekiglphaaGreatDoorER3Climb
namespace Go.Proofs.YthamoeekiglphaaGreatDoor
set_option maxRecDepth 100000
open Go.RowKit
set_option linter.unusedVariables false
attribute [local go_sem] ba_size
set_option maxHeartbeats 1000000 in
theorem runlike_any (a b:List UInt8) (ha:a.length≤1125899906842700) (hb:b.length≤1125899906842700) (w:World) :
 Calls Tryz.prog 60 #[.string ⟨a.toArray⟩,.string ⟨b.toArray⟩] w fun e w'=>e=.returned (unV (unL sumL a b))∧Below w.heap.size w w':=by
 by_cases hab:a=b
 ·subst hab
  rw [unL_eq];go_enter Tryz.func60,Tryz.ntmps60
  go_wp2_with fail
  go_ret3
  exact ⟨rfl,Below.refl _ _⟩
 ·have e1:(a==b)=false:=beq_eq_false_iff_ne.2 hab
  have S1:=fun w1=>rsumL_any a (by omega) w1
  have S2:=fun w1=>rsumL_any b (by omega) w1
  by_cases hs:sumL a=sumL b
  ·have HE:Hid (unL sumL a b=some (a,b)):=unL_some sumL a b hab hs
   rw [← hs] at S2;obtain ⟨x,hx⟩:∃ x,sumL a=x:=⟨_,rfl⟩;rw [hx] at S1 S2;clear hs hx;go_enter Tryz.func60,Tryz.ntmps60
   go_wp2_with fail
   refine (S1 w).mono ?_;rintro e w1 ⟨rfl,hb1⟩;go_wp2_with fail
   refine (S2 w1).mono ?_;rintro e w2 ⟨rfl,hb2⟩;go_wp2_with fail
   go_ret3
   exact ⟨by rw [HE.out];rfl,bel_trans hb1 hb2⟩
  ·have HE:Hid (unL sumL a b=none):=unL_ne sumL a b hs
   have e2:(sumL a==sumL b)=false:=beq_eq_false_iff_ne.2 hs;obtain ⟨x,hx⟩:∃ x,sumL a=x:=⟨_,rfl⟩;obtain ⟨y,hy⟩:∃ y,sumL b=y:=⟨_,rfl⟩;rw [hx] at S1 e2;rw [hy] at S2 e2;clear hs hx hy;go_enter Tryz.func60,Tryz.ntmps60
   go_wp2_with fail
   refine (S1 w).mono ?_;rintro e w1 ⟨rfl,hb1⟩;go_wp2_with fail
   refine (S2 w1).mono ?_;rintro e w2 ⟨rfl,hb2⟩;go_wp2_with fail
   go_ret3
   exact ⟨by rw [HE.out];rfl,bel_trans hb1 hb2⟩
theorem unV_form (O:Option (List UInt8 × List UInt8)):∃ (x y:List UInt8) (b:Bool),unV O=.tuple #[.string ⟨x.toArray⟩,.string ⟨y.toArray⟩,.bool b]:=by
 cases O with
 | none=>exact ⟨[],[],false,rfl⟩
 | some z=>exact ⟨z.1,z.2,true,rfl⟩
theorem climb_len (sm:List UInt8→List UInt8) (h32:∀ s,(sm s).length=32) (n i:Int) (a:List UInt8) (p:List (List UInt8)) (b:List UInt8) (q:List (List UInt8)) (h1:(climbL sm n i a p).2=0) (h2:(climbL sm n i b q).2=0):(climbL sm n i a p).1.length=(climbL sm n i b q).1.length:=by
 obtain ⟨hb,hp,x,hx,ex⟩:=climb_ok sm _ _ _ _ h1;obtain ⟨_,hq,y,hy,ey⟩:=climb_ok sm _ _ _ _ h2;have hL:=(inL_link sm h32 n.toNat n.toNat i.toNat a b p q x y rfl hp hq hx hy).1.1;rw [ex,ey,List.length_append,List.length_append,hL];rfl
theorem backL_same (sm:List UInt8→List UInt8) (x y:List (List UInt8)) (k:Nat) (h1:k < x.length) (h2:k < y.length) (h:x[k]=y[k]):backL sm x y (k+1)=backL sm x y k:=by
 rw [backL,if_neg];rw [List.getD_eq_getElem?_getD,List.getD_eq_getElem?_getD,List.getElem?_eq_getElem h1,List.getElem?_eq_getElem h2];simp [h]
theorem backL_diff (sm:List UInt8→List UInt8) (x y:List (List UInt8)) (k:Nat) (h1:k < x.length) (h2:k < y.length) (h:x[k]≠y[k]):backL sm x y (k+1)=unL sm x[k] y[k]:=by
 have e1:x.getD k []=x[k]:=by rw [List.getD_eq_getElem?_getD,List.getElem?_eq_getElem h1];rfl
 have e2:y.getD k []=y[k]:=by rw [List.getD_eq_getElem?_getD,List.getElem?_eq_getElem h2];rfl
 rw [backL,e1,e2,if_pos h]
set_option maxRecDepth 100000 in
set_option maxHeartbeats 2000000 in
theorem rclash_any (n i:Int) (a:List UInt8) (ha:a.length≤1125899906842500) (p:List (List UInt8)) (va:Value) (b:List UInt8) (hb:b.length≤1125899906842500) (q:List (List UInt8)) (vb:Value) (w:World) (hTa:IsTxt w va p) (hTb:IsTxt w vb q) :
 Calls Tryz.prog 28 #[.int .i64 n,.int .i64 i,.string ⟨a.toArray⟩,va,.string ⟨b.toArray⟩,vb] w fun e w'=>e=.returned (unV (clashL sumL n i a p b q))∧Below w.heap.size w w':=by
 have C1:=fun w1 h=>rclimb_any n i a ha p va w1 h
 have C2:=fun w1 h=>rclimb_any n i b hb q vb w1 h
 have R1:=climb_rows sumL sumL_len n i a p;have R2:=climb_rows sumL sumL_len n i b q;have RL:=climb_len sumL sumL_len n i a p b q;have HK:Hid (clashL sumL n i a p b q=if (climbL sumL n i a p).2≠0∨(climbL sumL n i b q).2≠0 then none else backL sumL (climbL sumL n i a p).1 (climbL sumL n i b q).1 (climbL sumL n i a p).1.length):=(rfl:_=_);obtain ⟨Ca,hCa⟩:∃ C,climbL sumL n i a p=C:=⟨_,rfl⟩;obtain ⟨Cb,hCb⟩:∃ C,climbL sumL n i b q=C:=⟨_,rfl⟩;rw [hCa] at C1 R1 RL HK;rw [hCb] at C2 R2 RL HK;obtain ⟨X,e1⟩:=Ca;obtain ⟨Y,e2⟩:=Cb;simp only at R1 R2 RL;obtain ⟨O,hO⟩:∃ O,clashL sumL n i a p b q=O:=⟨_,rfl⟩;rw [hO] at HK ⊢;clear hO hCa hCb;have C1':=C1 w hTa;have hTb':=hTb;obtain ⟨aa,capa,rfl,_,_,_⟩:=hTa.len
 obtain ⟨ab,capb,rfl,_,_,_⟩:=hTb.len;have C2':Hid (∀ w1,Below w.heap.size w w1→Calls Tryz.prog 25 #[.int .i64 n,.int .i64 i,.string ⟨b.toArray⟩,.slice ab q.length capb] w1 fun e w'=>ClRes w1 (Y,e2) e w'):=fun w1 h=>C2 w1 (hTb'.below h)
 clear C1 C2 hTa hTb hTb'
 by_cases h1:e1=0
 ·subst h1
  by_cases h2:e2=0
  ·subst h2
   have hlen:=RL rfl rfl;obtain ⟨f1,f2,f3⟩:=R1 rfl;obtain ⟨g1,g2,g3⟩:=R2 rfl;have HB:Hid (O=backL sumL X Y X.length):=by have:=HK.out;rw [if_neg (by simp)] at this;exact this
   clear HK R1 R2 RL;go_enter Tryz.func28,Tryz.ntmps28
   go_wp2_with fail
   refine C1'.mono ?_;rintro e w1 hres;obtain ⟨r1,rfl,hb1,own1⟩:=hres;go_wp2_with fail
   refine (C2'.out w1 hb1).mono ?_;rintro e w2 hres;obtain ⟨r2,rfl,hb2,own2⟩:=hres;have hbw2:=bel_trans hb1 hb2;have X1:IsTxt w2 r1 X:=(IsTxt.own own1 (by show X.length≤_;omega) (fun t ht=>by have:=f3 t ht;omega)).below hb2;have Y1:IsTxt w2 r2 Y:=IsTxt.own own2 (by show Y.length≤_;omega) (fun t ht=>by have:=g3 t ht;omega);obtain ⟨bx,ox,cx,rfl,hbx,_,_,_,CX⟩:=X1.at f2;obtain ⟨by',oy,cy,rfl,hby,_,_,_,CY⟩:=Y1.at g2;have HXB:Hid (∀ t∈X,t.length≤1125899906842600):=fun t ht=>by have:=f3 t ht;omega
   have HYB:Hid (∀ t∈Y,t.length≤1125899906842600):=fun t ht=>by have:=g3 t ht;omega
   have HLen:Hid (X.length=Y.length):=hlen;clear X1 Y1 own1 own2 f3 g3 C1' C2' hlen;obtain ⟨d,hd⟩:∃ d,X.length=d:=⟨_,rfl⟩;have hdy:Y.length=d:=by have:=HLen.out;omega
   have HD:Hid (X.length=d):=hd;have HDY:Hid (Y.length=d):=hdy;simp only [hd,hdy] at f1 f2 g1 g2 ⊢;rw [hd] at HB;clear hd hdy HLen;have v0:IntKind.i64.wrap ((d:Int) - 1)=(d:Int) - 1:=by rw [IntKind.wrap_i64];omega
   go_wp2_with fail
   go_loopw [19] (fun k wr=>∃ j:Nat,j≤d∧k=.int .i64 ((j:Int) - 1)∧Hid (O=backL sumL X Y j)∧Below w.heap.size w wr∧Below w2.heap.size w2 wr) (fun k _=>(RowKit.intOf k+1).toNat)
   case atStart=>exact ⟨d,Nat.le_refl _,rfl,HB,hbw2,Below.refl _ _⟩
   case round =>
    obtain ⟨j,hj,rfl,HJ,hbw,hbv⟩:=hrel;cases j with
    | zero =>
      have HE:Hid (O=none):=HJ.out;go_wp2_with fail
      go_ret3
      exact ⟨by rw [HE.out];rfl,hbw⟩
    | succ m =>
      have hm1:m < X.length:=by have:=HD.out;omega
      have hm2:m < Y.length:=by have:=HDY.out;omega
      have c1:wr.cell? ⟨bx,ox+m,none⟩=some (.string ⟨X[m].toArray⟩):=(hbv.cell (p:=⟨bx,ox+m,none⟩) hbx).trans (CX.out m hm1);have c2:wr.cell? ⟨by',oy+m,none⟩=some (.string ⟨Y[m].toArray⟩):=(hbv.cell (p:=⟨by',oy+m,none⟩) hby).trans (CY.out m hm2);have xb:=HXB.out _ (List.getElem_mem hm1);have yb:=HYB.out _ (List.getElem_mem hm2);have hS:=backL_same sumL X Y m hm1 hm2;have hDf:=backL_diff sumL X Y m hm1 hm2;rw [show (((m+1:Nat)):Int) - 1=(m:Int) by omega];have k0:(m:Int) < (d:Int):=by omega
      have k1:IntKind.i64.wrap ((m:Int) - 1)=(m:Int) - 1:=by rw [IntKind.wrap_i64];omega
      obtain ⟨x,hx⟩:∃ x,X[m]=x:=⟨_,rfl⟩;obtain ⟨y,hy⟩:∃ y,Y[m]=y:=⟨_,rfl⟩;rw [hx] at c1 xb hS hDf;rw [hy] at c2 yb hS hDf;clear hx hy
      by_cases hxy:x=y
      ·have heb:(x==y)=true:=by rw [hxy];exact beq_self_eq_true y
       have HJ':Hid (O=backL sumL X Y m):=HJ.out.trans (hS hxy);clear hS hDf hxy;go_wp2_with fail
       go_quiet (fail)
       go_wp2_with fail
       refine ⟨?relA,?measureA⟩
       case relA=>exact ⟨m,by omega,by first | rfl | go_num,HJ',below_drewN hbw _,below_drewN hbv _⟩
       case measureA=>simp [RowKit.intOf]
      ·have heb:(x==y)=false:=beq_eq_false_iff_ne.2 hxy
       have HJ':Hid (O=unL sumL x y):=HJ.out.trans (hDf hxy);have hU:=fun w1=>runlike_any x y (by omega) (by omega) w1
       rw [← HJ'.out] at hU;obtain ⟨s,u,bb,hf⟩:=unV_form O;rw [hf] at hU;have HFF:Hid (unV O=.tuple #[.string ⟨s.toArray⟩,.string ⟨u.toArray⟩,.bool bb]):=hf;clear hS hDf hxy hf;go_wp2_with fail
       go_quiet (fail)
       go_wp2_with fail
       refine wp_region_any (by kernel_rfl) ?_;change wpAny _ _ _ _ _ _ _ (World.drew _);refine wpAny_take (i:=0) (v:=.slice (some ⟨bx,ox,none⟩) d cx) rfl (by kernel_rfl) (by kernel_rfl) (by kernel_rfl) (fun _ _ _ h=>h) (Or.inl ⟨by rfl,fun w=>by go_simp⟩) ?_;refine wpAny_take (i:=1) (v:=.int .i64 m) rfl (by kernel_rfl) (by kernel_rfl) (by kernel_rfl) (fun _ _ _ h=>h) (Or.inl ⟨by rfl,fun w=>by go_simp⟩) ?_;refine wpAny_take (i:=2) (v:=.pointer (some ⟨bx,ox+m,none⟩)) rfl (by kernel_rfl) (by kernel_rfl) (by kernel_rfl) (fun _ _ _ h=>h) (Or.inl ⟨by rfl,fun w=>by go_simp⟩) ?_;refine wpAny_take (i:=4) (v:=.slice (some ⟨by',oy,none⟩) d cy) rfl (by kernel_rfl) (by kernel_rfl) (by kernel_rfl) (fun _ _ _ h=>h) (Or.inl ⟨by rfl,fun w=>by go_simp⟩) ?_
       refine wpAny_take (i:=5) (v:=.int .i64 m) rfl (by kernel_rfl) (by kernel_rfl) (by kernel_rfl) (fun _ _ _ h=>h) (Or.inl ⟨by rfl,fun w=>by go_simp⟩) ?_;refine wpAny_take (i:=6) (v:=.pointer (some ⟨by',oy+m,none⟩)) rfl (by kernel_rfl) (by kernel_rfl) (by kernel_rfl) (fun _ _ _ h=>h) (Or.inl ⟨by rfl,fun w=>by go_simp⟩) ?_;refine wpAny_ready (rs:=[3,7]) (by kernel_rfl) (by simp) ?_;refine AllReady.cons rfl (fun K' hK=>?_) ?_
       ·go_simp
        refine hK _ _ ?_;clear hK K';refine wpAny_ready (rs:=[7]) (by kernel_rfl) (by simp) ?_;refine AllReady.cons rfl (fun K' hK=>?_) AllReady.nil;go_simp
        refine hK _ _ ?_;clear hK K';refine wpAny_ready (rs:=[8]) (by kernel_rfl) (by simp) ?_;refine AllReady.cons rfl (fun K' hK=>?_) AllReady.nil;go_simp
        refine (hU _).mono ?_;rintro e w5 ⟨rfl,hb5⟩;refine hK _ _ ?_;clear hK K';refine wpAny_take (i:=9) (v:=.string ⟨s.toArray⟩) rfl (by kernel_rfl) (by kernel_rfl) (by kernel_rfl) (fun _ _ _ h=>h) (Or.inl ⟨by rfl,fun w=>by go_simp⟩) ?_;refine wpAny_take (i:=10) (v:=.string ⟨u.toArray⟩) rfl (by kernel_rfl) (by kernel_rfl) (by kernel_rfl) (fun _ _ _ h=>h) (Or.inl ⟨by rfl,fun w=>by go_simp⟩) ?_;refine wpAny_take (i:=11) (v:=.bool bb) rfl (by kernel_rfl) (by kernel_rfl) (by kernel_rfl) (fun _ _ _ h=>h) (Or.inl ⟨by rfl,fun w=>by go_simp⟩) ?_;refine any_seqI [12,13,14] [_,_,_] _ _ _ rfl (by kernel_rfl) ?_;go_wp2_with fail
        go_ret3
        refine ⟨by rw [HFF.out];rfl,?_⟩;exact bel_trans (below_drewN hbw _).drew hb5
       ·refine AllReady.cons rfl (fun K' hK=>?_) AllReady.nil
        go_simp
        refine hK _ _ ?_;clear hK K';refine wpAny_ready (rs:=[3]) (by kernel_rfl) (by simp) ?_;refine AllReady.cons rfl (fun K' hK=>?_) AllReady.nil;go_simp
        refine hK _ _ ?_;clear hK K';refine wpAny_ready (rs:=[8]) (by kernel_rfl) (by simp) ?_;refine AllReady.cons rfl (fun K' hK=>?_) AllReady.nil;go_simp
        refine (hU _).mono ?_;rintro e w5 ⟨rfl,hb5⟩;refine hK _ _ ?_;clear hK K';refine wpAny_take (i:=9) (v:=.string ⟨s.toArray⟩) rfl (by kernel_rfl) (by kernel_rfl) (by kernel_rfl) (fun _ _ _ h=>h) (Or.inl ⟨by rfl,fun w=>by go_simp⟩) ?_;refine wpAny_take (i:=10) (v:=.string ⟨u.toArray⟩) rfl (by kernel_rfl) (by kernel_rfl) (by kernel_rfl) (fun _ _ _ h=>h) (Or.inl ⟨by rfl,fun w=>by go_simp⟩) ?_;refine wpAny_take (i:=11) (v:=.bool bb) rfl (by kernel_rfl) (by kernel_rfl) (by kernel_rfl) (fun _ _ _ h=>h) (Or.inl ⟨by rfl,fun w=>by go_simp⟩) ?_;refine any_seqI [12,13,14] [_,_,_] _ _ _ rfl (by kernel_rfl) ?_;go_wp2_with fail
        go_ret3
        refine ⟨by rw [HFF.out];rfl,?_⟩;exact bel_trans (below_drewN hbw _).drew hb5
  ·have HE:Hid (O=none):=by have:=HK.out;rw [if_pos (Or.inr h2)] at this;exact this
   have i2:((e2:Int) != 0)=true:=by rw [bne_iff_ne];omega
   have i3:¬ (e2:Int)=0:=by omega
   clear HK R1 R2 RL;go_enter Tryz.func28,Tryz.ntmps28
   go_wp2_with fail
   refine C1'.mono ?_;rintro e w1 hres;obtain ⟨r1,rfl,hb1,own1⟩:=hres;go_wp2_with fail
   refine (C2'.out w1 hb1).mono ?_;rintro e w2 hres;obtain ⟨r2,rfl,hb2,own2⟩:=hres;go_wp2_with fail
   go_ret3
   exact ⟨by rw [HE.out];rfl,bel_trans hb1 hb2⟩
 ·have HE:Hid (O=none):=by have:=HK.out;rw [if_pos (Or.inl h1)] at this;exact this
  have i2:((e1:Int) != 0)=true:=by rw [bne_iff_ne];omega
  have i3:¬ (e1:Int)=0:=by omega
  clear HK R1 R2 RL;go_enter Tryz.func28,Tryz.ntmps28
  go_wp2_with fail
  refine C1'.mono ?_;rintro e w1 hres;obtain ⟨r1,rfl,hb1,own1⟩:=hres;go_wp2_with fail
  refine (C2'.out w1 hb1).mono ?_;rintro e w2 hres;obtain ⟨r2,rfl,hb2,own2⟩:=hres;go_wp2_with fail
  go_ret3
  exact ⟨by rw [HE.out];rfl,bel_trans hb1 hb2⟩
theorem clash_bound15 (n i:Int) (a:List UInt8) (ha:a.length≤1125899906842500) (p:List (List UInt8)) (b:List UInt8) (hb:b.length≤1125899906842500) (q:List (List UInt8)) (x y:List UInt8) (h:clashL sumL n i a p b q=some (x,y)):x.length≤1125899906842600∧y.length≤1125899906842600:=by
 unfold clashL at h
 by_cases hc:(climbL sumL n i a p).2≠0∨(climbL sumL n i b q).2≠0
 ·rw [if_pos hc] at h;cases h
 ·rw [if_neg hc] at h
  have r1:=(climb_rows sumL sumL_len32 n i a p (by omega)).2.2;have r2:=(climb_rows sumL sumL_len32 n i b q (by omega)).2.2;exact backL_bound sumL _ _ 1125899906842600 (fun t ht=>by have:=r1 t ht;omega) (fun t ht=>by have:=r2 t ht;omega) x y _ h
end Go.Proofs.YthamoeekiglphaaGreatDoor
