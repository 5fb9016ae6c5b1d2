/-
  What lean.round answers. What blake.Sum answers. What tree.leafInput, nodeInput, rootInput, Leaf, Node, isPlace and half answer. What math/bits.Len64, Len and t
-/
import Derived.Test.YthamoeekiglphaaGreatDoorEP15Edge
import Derived.Test.YthamoeekiglphaaGreatDoorEL1a
import Derived.Test.YthamoeekiglphaaGreatDoorEL0f
import Derived.Lib.Tables
namespace Go.Proofs.YthamoeekiglphaaGreatDoor
set_option maxRecDepth 100000
open Go.RowKit
set_option linter.unusedVariables false
attribute [local go_sem] ba_size
abbrev zD15:Array Value:=#[.int .i64 0,.int .i64 0,.int .i64 0,.int .i64 0,.int .i64 0]
structure EdS (w W:World) (b c:Nat) (x y:Array Value):Prop where
 bel:Below w.heap.size w W
 xb:SBox W b 32 x
 yb:SBox W c 32 y
 hb:w.heap.size≤b
 hc:w.heap.size≤c
 ne:b≠c
theorem EdS.below {w W W':World} {b c:Nat} {x y:Array Value} (h:EdS w W b c x y) (hb:Below W.heap.size W W'):EdS w W' b c x y:=⟨bel_trans h.bel hb,h.xb.below hb,h.yb.below hb,h.hb,h.hc,h.ne⟩
theorem eds_xy {w W:World} (h:Below w.heap.size w W):EdS w ((W.alloc (.cells zD15 32)).alloc (.cells zD15 32)) W.heap.size (W.heap.size+1) zD15 zD15 :=
 ⟨(h.alloc h.size _).alloc (by simp;have:=h.size;omega) _,(SBox.new W _ _).alloc _,(by have:=SBox.new (W.alloc (.cells zD15 32)) 32 zD15;rw [World.size_alloc] at this;exact this),h.size,by have:=h.size;omega,by omega⟩
theorem eds_yx {w W:World} (h:Below w.heap.size w W):EdS w ((W.alloc (.cells zD15 32)).alloc (.cells zD15 32)) (W.heap.size+1) W.heap.size zD15 zD15 :=
 ⟨(h.alloc h.size _).alloc (by simp;have:=h.size;omega) _,(by have:=SBox.new (W.alloc (.cells zD15 32)) 32 zD15;rw [World.size_alloc] at this;exact this),(SBox.new W _ _).alloc _,by have:=h.size;omega,h.size,by omega⟩
theorem EdS.put1 {w W:World} {b c:Nat} {y:Array Value} (h:EdS w W b c zD15 y) (x0 x1 x2 x3 x4:Int):EdS w (putL W b 0 [.int .i64 x0,.int .i64 x1,.int .i64 x2,.int .i64 x3,.int .i64 x4]) b c #[.int .i64 x0,.int .i64 x1,.int .i64 x2,.int .i64 x3,.int .i64 x4] y:=by
 have K:=kept_putL (B:=b) [.int .i64 x0,.int .i64 x1,.int .i64 x2,.int .i64 x3,.int .i64 x4] 0 W;exact ⟨h.bel.grown K h.bel.size (fun q h9=>by cases h9;exact h.hb),SBox.putL [.int .i64 x0,.int .i64 x1,.int .i64 x2,.int .i64 x3,.int .i64 x4] [] [.int .i64 0,.int .i64 0,.int .i64 0,.int .i64 0,.int .i64 0] W rfl h.xb,h.yb.kept15 K (fun e=>h.ne e.symm),h.hb,h.hc,h.ne⟩
theorem EdS.put2 {w W:World} {b c:Nat} {x:Array Value} (h:EdS w W b c x zD15) (y0 y1 y2 y3 y4:Int):EdS w (putL W c 0 [.int .i64 y0,.int .i64 y1,.int .i64 y2,.int .i64 y3,.int .i64 y4]) b c x #[.int .i64 y0,.int .i64 y1,.int .i64 y2,.int .i64 y3,.int .i64 y4]:=by
 have K:=kept_putL (B:=c) [.int .i64 y0,.int .i64 y1,.int .i64 y2,.int .i64 y3,.int .i64 y4] 0 W;exact ⟨h.bel.grown K h.bel.size (fun q h9=>by cases h9;exact h.hc),h.xb.kept15 K h.ne,SBox.putL [.int .i64 y0,.int .i64 y1,.int .i64 y2,.int .i64 y3,.int .i64 y4] [] [.int .i64 0,.int .i64 0,.int .i64 0,.int .i64 0,.int .i64 0] W rfl h.yb,h.hb,h.hc,h.ne⟩
theorem ringB_no (l:List Pf) (level:Int) (r:List Ed) (k:Nat) (hk:k < r.length) (h:rgK l level r k=false):ringB l level r=false:=by
 unfold ringB rgU;rw [all_no _ hk h,Bool.and_false]
theorem ringB_yes (l:List Pf) (level:Int) (r:List Ed) (h:∀ j,j < r.length→rgK l level r j=true):ringB l level r=decide ((r.length:Int) > 0):=by
 unfold ringB rgU;rw [List.all_eq_true.2 (fun x hx=>h x (List.mem_range.1 hx)),Bool.and_true];cases r with
 | nil=>rfl
 | cons e r=>rw [decide_eq_true (List.cons_ne_nil e r),decide_eq_true (by simp)]
set_option maxHeartbeats 16000000 in
theorem pround15_any (l:List Pf) (v:Value) (w:World) (hP:IsPfs w v l) (level:Int) (r:List Ed) (vr:Value) (hR:IsEds w vr r) :
 Calls Tryz.prog 81 #[v,.int .i64 level,vr] w fun e w'=>e=.returned (.bool (ringB l level r))∧Below w.heap.size w w':=by
 have CE0:=fun (e:Ed) V (hV:Below w.heap.size w V)=>pedge15_any l v V (hP.below hV) e.1 e.2.1 e.2.2.1 e.2.2.2.1 e.2.2.2.2
 have N:=Lib.hid (ringB_no l level r);have Y:=Lib.hid (ringB_yes l level r);obtain ⟨a,cap,rfl,k1,k2,k3⟩:=hP.len;obtain ⟨nn,hn⟩:∃ n,l.length=n:=⟨_,rfl⟩;rw [hn] at k1 k3 CE0 ⊢;have CE:=Lib.hid CE0;obtain ⟨al,cl,rfl,p1,p2,p3,HC⟩:=IsEds.reads hR;obtain ⟨m,hm⟩:∃ m,r.length=m:=⟨_,rfl⟩;have HM:=Lib.hid hm;have HRk:Hid (∀ k (hk:k < r.length),r.getD k (0,0,0,0,0)=r[k]):=fun k hk=>by rw [List.getD_eq_getElem?_getD,List.getElem?_eq_getElem hk];rfl
 obtain ⟨rr,hrr⟩:∃ b,ringB l level r=b:=⟨_,rfl⟩;rw [hrr] at N Y ⊢;rw [hm] at p1 p3 ⊢;rw [hm] at Y;clear CE0 hn hP hR hm hrr;go_enter Tryz.func81,Tryz.ntmps81
 go_wp2_with fail
 go_loopw [12] (fun i wq=>∃ q:Nat,q≤m∧i=.int .i64 q∧Hid (∀ j,j < q→rgK l level r j=true)∧Below w.heap.size w wq) (fun i _=>m - (RowKit.intOf i).toNat)
 case atStart=>exact ⟨0,Nat.zero_le _,rfl,(fun j hj=>absurd hj (by omega)),Below.refl _ _⟩
 case round =>
  obtain ⟨q,hq,rfl,HB,hbq⟩:=hrel
  by_cases hlq:q < m
  ·have hq1:q < r.length:=by have:=HM.out;omega
   have h01:0 < r.length:=by omega
   have jq:(q:Int) < (m:Int):=by omega
   have jw:IntKind.i64.wrap ((q:Int)+1)=(q:Int)+1:=by rw [IntKind.wrap_i64];omega
   have km:¬ (m:Int)=0:=by omega
   have km2:¬ m=0:=by omega
   obtain ⟨s,hs,hsm,hnx⟩:∃ s:Nat,((q:Int)+1).tmod (m:Int)=(s:Int)∧s < m∧(q+1) % r.length=s:=by
    by_cases dn:q+1 < m
    ·refine ⟨q+1,?_,dn,by rw [HM.out];exact Nat.mod_eq_of_lt dn⟩
     rw [Int.tmod_eq_of_lt (by omega) (by omega)];omega
    ·refine ⟨0,?_,by omega,by rw [HM.out,show q+1=m by omega,Nat.mod_self]⟩
     have e:(q:Int)+1=(m:Int):=by omega
     rw [e,Int.tmod_self];rfl
   have hs1:s < r.length:=by have:=HM.out;omega
   have ks:(s:Int) < (m:Int):=by omega
   obtain ⟨bb,off,rfl,HQ⟩:=HC.out h01;have HX:=Lib.hid (HQ.out q hq1);have HZ:=Lib.hid (HQ.out s hs1)
   have HK0:Hid (rgK l level r q=(edgeB l r[q]&&decide (r[q].2.2.1=r[s].2.1)&&!(decide (level=2)&&decide (r[q].1=3)&&decide (r[s].1=3)))):=by
    show _=_;unfold rgK nxE;rw [HRk.out q hq1,hnx,HRk.out s hs1]
   obtain ⟨⟨x0,x1,x2,x3,x4⟩,hx⟩:∃ x,r[q]=x:=⟨_,rfl⟩;obtain ⟨⟨y0,y1,y2,y3,y4⟩,hy⟩:∃ x,r[s]=x:=⟨_,rfl⟩;rw [hx] at HX HK0;rw [hy] at HZ HK0;obtain ⟨ok,hok⟩:∃ b,edgeB l (x0,x1,x2,x3,x4)=b:=⟨_,rfl⟩;have HOK:=Lib.hid hok;obtain ⟨t1,g1⟩:∃ b,(x2==y1)=b:=⟨_,rfl⟩;obtain ⟨t2,g2⟩:∃ b,(level==2)=b:=⟨_,rfl⟩;obtain ⟨t3,g3⟩:∃ b,(x0==3)=b:=⟨_,rfl⟩;obtain ⟨t4,g4⟩:∃ b,(y0==3)=b:=⟨_,rfl⟩;have HK:Hid (rgK l level r q=(ok&&t1&&!(t2&&t3&&t4))):=by show _=_;rw [HK0.out,hok,← g1,← g2,← g3,← g4];rfl
   have n1:(x2 != y1)=!t1:=by rw [← g1];rfl
   have HN1:Hid (rgK l level r q=false→rr=false):=fun h=>N.out q hq1 h
   have HB2:Hid (rgK l level r q=true→∀ j,j < q+1→rgK l level r j=true):=fun hh j hj=>by
    rcases Nat.lt_or_ge j q with hj2 | hj2
    ·exact HB.out j hj2
    ·obtain rfl:j=q:=by omega
     exact hh
   clear hx hy h01 hnx hs1 hq1 hok HK0 HQ;go_upto_region 4 with fail
   go_cut [8,9] from 15 to 26 (fun s8 s9 W=>∃ b8 b9,s8=.pointer (some ⟨b8,0,none⟩)∧s9=.pointer (some ⟨b9,0,none⟩)∧EdS w W b8 b9 #[.int .i64 x0,.int .i64 x1,.int .i64 x2,.int .i64 x3,.int .i64 x4] #[.int .i64 y0,.int .i64 y1,.int .i64 y2,.int .i64 y3,.int .i64 y4])
   case first =>
    refine wp_region_any (by kernel_rfl) ?_;change wpAny _ _ _ _ _ _ _ (World.drew _);generalize hwd:World.drew _=wd;have T:Below w.heap.size w wd:=by rw [← hwd];exact hbq.drew
    clear hwd;refine any_of_C (C:=fun V=>Below w.heap.size w V) 15 _ _ _ _ ?_;refine takeD 0 (.slice (some ⟨bb,off,none⟩) m cl) rfl (by kernel_rfl) (fun _ _ _ h=>h) (fun V hV=>(by obtain ⟨u0,u1,u2,u3,u4⟩:=HX.out V hV;obtain ⟨v0,v1,v2,v3,v4⟩:=HZ.out V hV;simp only at u0 u1 u2 u3 u4 v0 v1 v2 v3 v4;go_simp)) ?_;refine takeD 1 (.int .i64 (q:Int)) rfl (by kernel_rfl) (fun _ _ _ h=>h) (fun V hV=>(by obtain ⟨u0,u1,u2,u3,u4⟩:=HX.out V hV;obtain ⟨v0,v1,v2,v3,v4⟩:=HZ.out V hV;simp only at u0 u1 u2 u3 u4 v0 v1 v2 v3 v4;go_simp)) ?_;refine takeD 2 (.pointer (some ⟨bb,off+q*5,none⟩)) rfl (by kernel_rfl) (fun _ _ _ h=>h) (fun V hV=>(by obtain ⟨u0,u1,u2,u3,u4⟩:=HX.out V hV;obtain ⟨v0,v1,v2,v3,v4⟩:=HZ.out V hV;simp only at u0 u1 u2 u3 u4 v0 v1 v2 v3 v4;go_simp)) ?_
    refine takeD 3 (.agg #[.int .i64 x0,.int .i64 x1,.int .i64 x2,.int .i64 x3,.int .i64 x4]) rfl (by kernel_rfl) (fun _ _ _ h=>h) (fun V hV=>(by obtain ⟨u0,u1,u2,u3,u4⟩:=HX.out V hV;obtain ⟨v0,v1,v2,v3,v4⟩:=HZ.out V hV;simp only at u0 u1 u2 u3 u4 v0 v1 v2 v3 v4;go_simp)) ?_;refine takeD 4 (.slice (some ⟨bb,off,none⟩) m cl) rfl (by kernel_rfl) (fun _ _ _ h=>h) (fun V hV=>(by obtain ⟨u0,u1,u2,u3,u4⟩:=HX.out V hV;obtain ⟨v0,v1,v2,v3,v4⟩:=HZ.out V hV;simp only at u0 u1 u2 u3 u4 v0 v1 v2 v3 v4;go_simp)) ?_;refine takeD 5 (.int .i64 (q:Int)) rfl (by kernel_rfl) (fun _ _ _ h=>h) (fun V hV=>(by obtain ⟨u0,u1,u2,u3,u4⟩:=HX.out V hV;obtain ⟨v0,v1,v2,v3,v4⟩:=HZ.out V hV;simp only at u0 u1 u2 u3 u4 v0 v1 v2 v3 v4;go_simp)) ?_
    refine takeD 6 (.int .i64 ((q:Int)+1)) rfl (by kernel_rfl) (fun _ _ _ h=>h) (fun V hV=>(by obtain ⟨u0,u1,u2,u3,u4⟩:=HX.out V hV;obtain ⟨v0,v1,v2,v3,v4⟩:=HZ.out V hV;simp only at u0 u1 u2 u3 u4 v0 v1 v2 v3 v4;go_simp)) ?_;refine takeD 7 (.slice (some ⟨bb,off,none⟩) m cl) rfl (by kernel_rfl) (fun _ _ _ h=>h) (fun V hV=>(by obtain ⟨u0,u1,u2,u3,u4⟩:=HX.out V hV;obtain ⟨v0,v1,v2,v3,v4⟩:=HZ.out V hV;simp only at u0 u1 u2 u3 u4 v0 v1 v2 v3 v4;go_simp)) ?_;refine takeD 8 (.int .i64 (m:Int)) rfl (by kernel_rfl) (fun _ _ _ h=>h) (fun V hV=>(by obtain ⟨u0,u1,u2,u3,u4⟩:=HX.out V hV;obtain ⟨v0,v1,v2,v3,v4⟩:=HZ.out V hV;simp only at u0 u1 u2 u3 u4 v0 v1 v2 v3 v4;go_simp)) ?_;refine takeD 9 (.int .i64 (s:Int)) rfl (by kernel_rfl) (fun _ _ _ h=>h) (fun V hV=>(by obtain ⟨u0,u1,u2,u3,u4⟩:=HX.out V hV;obtain ⟨v0,v1,v2,v3,v4⟩:=HZ.out V hV;simp only at u0 u1 u2 u3 u4 v0 v1 v2 v3 v4;go_simp)) ?_
    refine takeD 10 (.pointer (some ⟨bb,off+s*5,none⟩)) rfl (by kernel_rfl) (fun _ _ _ h=>h) (fun V hV=>(by obtain ⟨u0,u1,u2,u3,u4⟩:=HX.out V hV;obtain ⟨v0,v1,v2,v3,v4⟩:=HZ.out V hV;simp only at u0 u1 u2 u3 u4 v0 v1 v2 v3 v4;go_simp)) ?_;refine takeD 11 (.agg #[.int .i64 y0,.int .i64 y1,.int .i64 y2,.int .i64 y3,.int .i64 y4]) rfl (by kernel_rfl) (fun _ _ _ h=>h) (fun V hV=>(by obtain ⟨u0,u1,u2,u3,u4⟩:=HX.out V hV;obtain ⟨v0,v1,v2,v3,v4⟩:=HZ.out V hV;simp only at u0 u1 u2 u3 u4 v0 v1 v2 v3 v4;go_simp)) ?_;refine fork2 (i:=12) (j:=13) (by kernel_rfl) (by kernel_rfl) T rfl rfl (fun K hK=>?_) (fun K hK=>?_)
    ·go_wp2_with fail
     refine consC (i:=13) (by kernel_rfl) (by kernel_rfl) (T.alloc T.size _) rfl (fun K hK=>?_);go_wp2_with fail
     have M:=eds_xy T;clear T;generalize World.alloc (World.alloc _ _) _=W2 at M ⊢;have N1:=M.put1 x0 x1 x2 x3 x4;have p0:=M.xb.cell 0 _ rfl;have q0:=M.xb.frozen 0;have p1:=M.xb.cell 1 _ rfl;have q1:=M.xb.frozen 1;have p2:=M.xb.cell 2 _ rfl;have q2:=M.xb.frozen 2;have p3:=M.xb.cell 3 _ rfl;have q3:=M.xb.frozen 3;have p4:=M.xb.cell 4 _ rfl;have q4:=M.xb.frozen 4;have HNN:=Lib.hid N1;have HMB:=Lib.hid M.bel;clear N1 M;refine consC (i:=14) (by kernel_rfl) (by kernel_rfl) HMB.out rfl (fun K hK=>?_);go_wp2_with fail
     have N1:=HNN.out;clear p0 p1 p2 p3 p4 q0 q1 q2 q3 q4 HNN HMB;change EdS _ (World.setCell _ _ _) _ _ _ _ at N1;generalize World.setCell _ _ _=WN at N1 ⊢;have E9:=N1.put2 y0 y1 y2 y3 y4;have p0:=N1.yb.cell 0 _ rfl;have q0:=N1.yb.frozen 0;have p1:=N1.yb.cell 1 _ rfl;have q1:=N1.yb.frozen 1;have p2:=N1.yb.cell 2 _ rfl;have q2:=N1.yb.frozen 2;have p3:=N1.yb.cell 3 _ rfl;have q3:=N1.yb.frozen 3;have p4:=N1.yb.cell 4 _ rfl;have q4:=N1.yb.frozen 4;have HE:=Lib.hid E9;clear E9;refine lastC (by kernel_rfl) (by kernel_rfl) N1.bel (of_decide_eq_true (by kernel_rfl)) ?_;refine any_seqI [15] [_] _ _ _ rfl (by kernel_rfl) ?_;clear N1;go_wp2_with fail
     go_meet
     exact ⟨_,_,rfl,rfl,HE.out⟩
    ·go_wp2_with fail
     refine consC (i:=12) (by kernel_rfl) (by kernel_rfl) (T.alloc T.size _) rfl (fun K hK=>?_);go_wp2_with fail
     have M:=eds_yx T;clear T;generalize World.alloc (World.alloc _ _) _=W2 at M ⊢;have N1:=M.put1 x0 x1 x2 x3 x4;have p0:=M.xb.cell 0 _ rfl;have q0:=M.xb.frozen 0;have p1:=M.xb.cell 1 _ rfl;have q1:=M.xb.frozen 1;have p2:=M.xb.cell 2 _ rfl;have q2:=M.xb.frozen 2;have p3:=M.xb.cell 3 _ rfl;have q3:=M.xb.frozen 3;have p4:=M.xb.cell 4 _ rfl;have q4:=M.xb.frozen 4;have HNN:=Lib.hid N1;have HMB:=Lib.hid M.bel;clear N1 M;refine consC (i:=14) (by kernel_rfl) (by kernel_rfl) HMB.out rfl (fun K hK=>?_);go_wp2_with fail
     have N1:=HNN.out;clear p0 p1 p2 p3 p4 q0 q1 q2 q3 q4 HNN HMB;change EdS _ (World.setCell _ _ _) _ _ _ _ at N1;generalize World.setCell _ _ _=WN at N1 ⊢;have E9:=N1.put2 y0 y1 y2 y3 y4;have p0:=N1.yb.cell 0 _ rfl;have q0:=N1.yb.frozen 0;have p1:=N1.yb.cell 1 _ rfl;have q1:=N1.yb.frozen 1;have p2:=N1.yb.cell 2 _ rfl;have q2:=N1.yb.frozen 2;have p3:=N1.yb.cell 3 _ rfl;have q3:=N1.yb.frozen 3;have p4:=N1.yb.cell 4 _ rfl;have q4:=N1.yb.frozen 4;have HE:=Lib.hid E9;clear E9;refine lastC (by kernel_rfl) (by kernel_rfl) N1.bel (of_decide_eq_true (by kernel_rfl)) ?_;refine any_seqI [15] [_] _ _ _ rfl (by kernel_rfl) ?_;clear N1;go_wp2_with fail
     go_meet
     exact ⟨_,_,rfl,rfl,HE.out⟩
   case rest =>
    obtain ⟨b8,b9,rfl,rfl,E⟩:=hcut;clear hbq;have c0:=E.xb.cell 0 _ rfl;have c1:=E.xb.cell 1 _ rfl;have c2:=E.xb.cell 2 _ rfl;have c3:=E.xb.cell 3 _ rfl;have c4:=E.xb.cell 4 _ rfl;have d1:=E.yb.cell 1 _ rfl;have Bc:=E.bel;have HE:=Lib.hid E;clear E;cases t1 with
    | false =>
      have HF:Hid (rr=false):=HN1.out (by rw [HK.out];cases ok<;>rfl);simp only [Bool.not_false] at n1;go_wp2_with fail
      go_ret
      exact ⟨by rw [HF.out];rfl,Bc⟩
    | true =>
      simp only [Bool.not_true] at n1;have D:=CE.out (x0,x1,x2,x3,x4) _ Bc;simp only at D;rw [HOK.out] at D;cases ok with
      | false =>
        have HF:Hid (rr=false):=HN1.out HK.out;go_wp2_with fail
        refine D.mono ?_;rintro e w1 ⟨rfl,b1⟩;go_wp2_with fail
        go_ret
        exact ⟨by rw [HF.out];rfl,bel_trans Bc b1⟩
      | true =>
        go_upto_region 5 with fail
        go_wp2_with fail
        refine D.mono ?_;rintro e w1 ⟨rfl,b1⟩;have E1:=HE.out.below b1;clear c0 c1 c2 c3 c4 d1 Bc HE b1 D;have c0:=E1.xb.cell 0 _ rfl;have d0:=E1.yb.cell 0 _ rfl;have Bd:=E1.bel;clear E1;have H:(t2=true∧t3=true∧t4=true)∨t2=false∨(t2=true∧t3=false)∨(t2=true∧t3=true∧t4=false):=by cases t2<;>cases t3<;>cases t4<;>simp
        rcases H with ⟨rfl,rfl,rfl⟩ | rfl | ⟨rfl,rfl⟩ | ⟨rfl,rfl,rfl⟩
        ·have HF:Hid (rr=false):=HN1.out HK.out
         go_wp2_with fail
         go_ret
         exact ⟨by rw [HF.out];rfl,Bd⟩
        all_goals
         have HF:=Lib.hid (HB2.out HK.out);go_wp2_with fail
         refine ⟨⟨q+1,by omega,by first | go_num | simp,HF,Bd⟩,by simp [RowKit.intOf];omega⟩
  ·obtain rfl:q=m:=by omega
   have jq:¬ (q:Int) < (q:Int):=by omega
   have HF:Hid (rr=decide ((q:Int) > 0)):=Y.out HB.out;obtain ⟨b,hb⟩:∃ b,decide (0 < q)=b:=⟨_,rfl⟩;rw [show decide ((q:Int) > 0)=decide (0 < q) from decide_eq_decide.2 (by omega),hb] at HF;go_wp2_with fail
   go_ret
   exact ⟨by rw [HF.out];rfl,hbq⟩
attribute [local go_sem] ba_size ba_get ba_extract take_drop_end wv_get wv_getE wv_set wv_size
set_option maxHeartbeats 1000000 in
theorem sum_any (S:List UInt8) (hS:S.length≤9223372036854775000) (w:World) (hG:G w) :
 Calls Tryz.prog 78 #[.string ⟨S.toArray⟩] w fun e w'=>e=.returned (.string ⟨(sumL S).toArray⟩)∧Below w.heap.size w w':=by
 have hg3:=hG.size;obtain ⟨H,hH⟩:∃ H,startL 0=H:=⟨_,rfl⟩;have lH:H.length=8:=by rw [← hH];rfl
 have hs:=start_good 0 (by omega) (by omega) w hG;rw [hH] at hs;have hsz:(Tryz.prog.info? 99).map (·.size)=some (wv H).size:=by rw [size8,wv_size,lH]
 go_enter Tryz.func78,Tryz.ntmps78
 go_wp2_with fail
 refine hs.mono ?_;rintro e w1 ⟨rfl,hb1⟩;go_upto_region 2 with (refine wpList_store_row rfl 99 _ _ rfl w1.heap.size (wv H) rfl rfl 99 (wv Z8) (heap_alloc_new w1 _) hsz (by rw [wv_size,wv_size,lH];rfl) (wv_one _) ?_)
 change Code.wp _ _ _ _ ((w1.alloc (.cells (wv Z8) 99)).setRow w1.heap.size (wv H));obtain ⟨w2,hw2⟩:∃ w2,(w1.alloc (.cells (wv Z8) 99)).setRow w1.heap.size (wv H)=w2:=⟨_,rfl⟩;have hrow2:w2.heap[w1.heap.size]?=some (.cells (wv H) 99 (0,0)):=by rw [← hw2];exact setRow_heap _ _ _ _ _ _ (heap_alloc_new w1 _)
 have hb2:Below w.heap.size w w2:=by rw [← hw2];exact below_setRow (hb1.alloc hb1.size _) hb1.size _
 have hG2:G w2:=hG.below hb2 hg3;rw [hw2];clear hw2;go_wp2_with (refine wpList_load_row rfl 99 _ rfl w1.heap.size rfl 99 (wv H) (0,0) _ hrow2 Tryz.underlying99 rfl hsz ?_)
 refine (fold_any H lH S hS _ hG2).mono ?_;rintro e w3 ⟨rfl,hb3⟩;go_wp2_with fail
 go_ret
 exact ⟨by unfold sumL;rw [hH];rfl,hb2.trans (hb3.mono hb2.size)⟩
end Go.Proofs.YthamoeekiglphaaGreatDoor
namespace Go.Proofs.YthamoeekiglphaaGreatDoor
set_option maxRecDepth 100000
open Go.RowKit
set_option linter.unusedVariables false
attribute [local go_sem] ba_size ba_get ba_extract ba_append take_drop_end
theorem psumL_any (S:List UInt8) (hS:S.length≤9223372036854775000) (w:World) (hG:G w) :
 Calls Tryz.prog 78 #[.string ⟨S.toArray⟩] w fun e w'=>e=.returned (.string ⟨(sumL S).toArray⟩)∧Below w.heap.size w w':=sum_any S hS w hG
set_option maxHeartbeats 400000 in
theorem pleafIn_any (s:List UInt8) (hs:s.length≤1125899906842624) (w:World) :
 Calls Tryz.prog 130 #[.string ⟨s.toArray⟩] w fun e w'=>e=.returned (.string ⟨(leafI s).toArray⟩)∧w'=w:=by
 go_enter Tryz.func130,Tryz.ntmps130
 go_wp2
 go_ret
 exact ⟨rfl,rfl⟩
set_option maxHeartbeats 400000 in
theorem pnodeIn_any (a b:List UInt8) (ha:a.length≤1125899906842624) (hb:b.length≤1125899906842624) (w:World) :
 Calls Tryz.prog 132 #[.string ⟨a.toArray⟩,.string ⟨b.toArray⟩] w fun e w'=>e=.returned (.string ⟨(nodeI a b).toArray⟩)∧w'=w:=by
 have h1:1+a.length+b.length≤9223372036854775807:=by omega
 go_enter Tryz.func132,Tryz.ntmps132
 go_wp2
 go_ret
 exact ⟨rfl,rfl⟩
set_option maxHeartbeats 400000 in
theorem prootIn_any (n:Nat) (hn:n≤140737488351232) (c:List UInt8) (hc:c.length≤32) (w:World) :
 Calls Tryz.prog 133 #[.int .i64 n,.string ⟨c.toArray⟩] w fun e w'=>e=.returned (.string ⟨(rootI n c).toArray⟩)∧Below w.heap.size w w':=by
 have x1:IntKind.u64.wrap (n:Int)=n:=by rw [IntKind.wrap_u64];omega
 have hl:=Lm.numL_length n;have hcn:Lm.cnt n≤8:=Lm.cnt_le n;obtain ⟨N,hN⟩:∃ N,Lm.numL n=N:=⟨_,rfl⟩;have hc1:=num_any n (by omega) w;rw [hN] at hc1 hl;have hl1:1+N.length≤9223372036854775807:=by omega
 have hl2:1+N.length+c.length≤9223372036854775807:=by omega
 go_enter Tryz.func133,Tryz.ntmps133
 go_wp2_with fail
 refine hc1.mono ?_;rintro e w1 ⟨rfl,hb1⟩;go_wp2_with fail
 go_ret
 exact ⟨by unfold rootI;rw [hN];rfl,hb1⟩
set_option maxHeartbeats 400000 in
theorem pisPlace_any (n i:Int) (w:World) :
 Calls Tryz.prog 128 #[.int .i64 n,.int .i64 i] w fun e w'=>e=.returned (.bool (decide (0≤i∧i < n)))∧w'=w:=by
 by_cases h0:0≤i
 ·have h1:decide (0≤i∧i < n)=decide (i < n):=by simp [h0]
  rw [h1];clear h1;go_enter Tryz.func128,Tryz.ntmps128
  go_wp2
  go_ret
  exact ⟨rfl,rfl⟩
 ·have h1:decide (0≤i∧i < n)=false:=by simp [h0]
  rw [h1];clear h1;go_enter Tryz.func128,Tryz.ntmps128
  go_wp2
  go_ret
  exact ⟨rfl,rfl⟩
def ln (x:Nat):Nat:=if x=0 then 0 else x.log2+1
theorem hf_ln:∀ n,n < 4097→2≤n→hf n=2 ^ (ln (n - 1) - 1)∧1≤ln (n - 1)∧ln (n - 1)≤12:=by decide +kernel
end Go.Proofs.YthamoeekiglphaaGreatDoor
namespace Go.Proofs.YthamoeekiglphaaGreatDoor
set_option maxRecDepth 100000
open Go.RowKit
set_option linter.unusedVariables false
theorem tab_at:∀ x,x < 256→(Lib.len8tab[x]?.getD 0).toNat=ln x∧ln x≤8:=by decide +kernel
theorem tab_eq:Lib.len8tab.size=256:=by decide +kernel
theorem tab_get (x:Nat) (h:x < Lib.len8tab.size):(Lib.len8tab[x]'h).toNat=ln x:=by
 have hx:x < 256:=by rw [← tab_eq];exact h
 have:=(tab_at x hx).1;rw [getElem?_pos Lib.len8tab x h] at this;exact this
theorem tab_ret (x:Nat) (h:x < Lib.len8tab.size):wrap64 (wrap64 ((Lib.len8tab[x]'h).toNat:Int))=ln x:=by
 have hx:x < 256:=by rw [← tab_eq];exact h
 have:=(tab_at x hx).2;rw [tab_get];unfold wrap64;omega
attribute [local go_sem] ba_size ba_get in
set_option maxHeartbeats 1000000 in
theorem plen64_small (x:Nat) (hx:x < 256) (w:World) :
 Calls Tryz.prog 151 #[.int .u64 x] w fun e w'=>e=.returned (.int .i64 (ln x))∧w'=w:=by
 have i0:decide ((4294967296:Int)≤(x:Int))=false:=decide_eq_false (by omega);have i1:decide ((65536:Int)≤(x:Int))=false:=decide_eq_false (by omega);have i2:decide ((256:Int)≤(x:Int))=false:=decide_eq_false (by omega);go_enter Tryz.func151,Tryz.ntmps151
 go_wp2
 go_ret
 refine ⟨?_,rfl⟩;simp only [tab_ret];rfl
theorem ln_256:∀ x,x < 4096→256≤x→ln x=8+ln (x / 256)∧ln x≤12:=by decide +kernel
set_option maxHeartbeats 1000000 in
theorem plen64_int (x:Int) (h1:256≤x) (hx:x < 4096) (w:World) :
 Calls Tryz.prog 151 #[.int .u64 x] w fun e w'=>e=.returned (.int .i64 (ln x.toNat))∧w'=w:=by
 have i0:decide ((4294967296:Int)≤x)=false:=decide_eq_false (by omega);have i1:decide ((65536:Int)≤x)=false:=decide_eq_false (by omega);have i2:decide ((256:Int)≤x)=true:=decide_eq_true h1;have hb:(x / 256).toNat < Lib.len8tab.size:=by rw [tab_eq];omega
 go_enter Tryz.func151,Tryz.ntmps151
 go_wp2
 go_ret
 refine ⟨congrArg Ending.returned (congrArg (Value.int IntKind.i64) ?_),rfl⟩;simp only [tab_get];have e:(x / 256).toNat=x.toNat / 256:=by omega
 have l:=ln_256 x.toNat (by omega) (by omega);rw [e];unfold wrap64;omega
theorem plen64_any (x:Nat) (hx:x < 4096) (w:World) :
 Calls Tryz.prog 151 #[.int .u64 x] w fun e w'=>e=.returned (.int .i64 (ln x))∧w'=w:=by
 by_cases h:x < 256
 ·exact plen64_small x h w
 ·exact plen64_int (x:Int) (by omega) (by omega) w
set_option maxHeartbeats 400000 in
theorem plen_any (x:Nat) (hx:x < 4096) (w:World) :
 Calls Tryz.prog 149 #[.int .u64 x] w fun e w'=>e=.returned (.int .i64 (ln x))∧w'=w:=by
 go_enter Tryz.func149,Tryz.ntmps149
 go_wp2_with fail
 refine (plen64_any x hx w).mono ?_;rintro e w1 ⟨rfl,rfl⟩;go_wp2_with fail
 go_ret
 exact ⟨rfl,rfl⟩
theorem shl_ln:∀ a:Nat,a < 12→wrap64 (2 ^ a)=((2 ^ a:Nat):Int):=by decide +kernel
set_option maxHeartbeats 400000 in
theorem phalf_any (n:Nat) (h2:2≤n) (hn:n≤4096) (w:World) :
 Calls Tryz.prog 147 #[.int .i64 n] w fun e w'=>e=.returned (.int .i64 (hf n))∧w'=w:=by
 obtain ⟨e1,e2,e3⟩:=hf_ln n (by omega) h2;have hL:=plen_any (n - 1) (by omega) w;rw [show (((n - 1:Nat)):Int)=(n:Int) - 1 by omega] at hL;obtain ⟨a,ha⟩:∃ a,ln (n - 1)=a+1:=⟨ln (n - 1) - 1,by omega⟩;rw [ha] at hL e1 e2 e3;rw [Nat.add_sub_cancel] at e1;rw [e1];have x0:IntKind.i64.wrap ((n:Int) - 1)=(n:Int) - 1:=by rw [IntKind.wrap_i64];omega
 have x1:IntKind.u64.wrap ((n:Int) - 1)=(n:Int) - 1:=by rw [IntKind.wrap_u64];omega
 clear e1 ha;go_enter Tryz.func147,Tryz.ntmps147
 go_wp2_with fail
 refine hL.mono ?_;rintro e w1 ⟨rfl,rfl⟩;go_wp2_with fail
 go_ret
 exact ⟨congrArg Ending.returned (congrArg (Value.int IntKind.i64) (shl_ln a (by omega))),rfl⟩
end Go.Proofs.YthamoeekiglphaaGreatDoor
namespace Go.Proofs.YthamoeekiglphaaGreatDoor
set_option maxRecDepth 100000
open Go.RowKit Go.Shelf
set_option linter.unusedVariables false
attribute [local go_sem] Oper.semAt_some
theorem room_of_none {F:Fence} (hd:F.depth=none) (k:Nat):F.room k:=fun d h=>by rw [hd] at h;cases h
theorem round_anyDepth {F:Fence} (hd:F.depth=none) {m m':Nat} {P:Program} {l:Nat} {f:FuncId} {tmps:Array Value} {assign body:Code} {w:World} {R:Ending→World→Prop}
 (h:RoundIn F m P l f tmps assign body w R):RoundIn F m' P l f tmps assign body w R:=⟨h.1,fun c cs _=>h.2 c cs (room_of_none hd _)⟩
theorem yield_anyDepth {F:Fence} (hd:F.depth=none) {m:Nat} (m':Nat) {P:Program} {l:Nat} {args:Array Value} {W:World} {R:Ending→World→Prop} (h:YieldAt F m P l args W R):YieldAt F m' P l args W R:=by
 obtain ⟨fn,tmps,assign,body,hy,hR⟩:=h;exact ⟨fn,tmps,assign,body,hy,round_anyDepth hd hR⟩
abbrev sideV {n:Nat} (x:Side n):Array Value:=#[.agg #[.int .i64 x.a,.int .i64 x.b,.bool x.r]]
set_option maxHeartbeats 2000000 in
theorem tell_in (l n N:Nat) (hn:n≤4096) (J Jx:List (Side n)→World→Prop)
 (hY:∀ m pre x W,J pre W→pre.length < N→YieldAt Fence.wide m Tryz.prog l (sideV x) W fun e W'=>(e=.returned (.bool true)∧J (pre++[x]) W')∨(e=.returned (.bool false)∧Jx (pre++[x]) W')) :
 ∀ (d a b i:Nat) (h:b≤n) (k:Nat) (pre:List (Side n)) (W:World),b - a=d→a≤b→i≤4096→J pre W→pre.length+(sidesS n a b i h).length≤N →
   CallsIn Fence.wide k Tryz.prog 140 #[.int .i64 a,.int .i64 b,.int .i64 i,.func (.yield l) #[] #[]] W fun e W' =>
    (e=.returned (.bool true)∧J (pre++sidesS n a b i h) W')∨(e=.returned (.bool false)∧∃ q,q <+: sidesS n a b i h∧Jx (pre++q) W'):=by
 intro d
 induction d using Nat.strongRecOn with
 | _ d ih =>
   intro a b i h k pre W hd hab hi4 hJ hN;have hdd:∀ k:Nat,(Fence.wide.depth.isSome=true→1≤k):=fun k h=>by cases h
   have x0:IntKind.i64.wrap ((b:Int) - (a:Int))=(b:Int) - (a:Int):=by rw [IntKind.wrap_i64];omega
   by_cases h1:b - a≤1
   ·have HE:Hid (sidesS n a b i h=[]):=sidesS_nil n a b i h h1
    have i0:(b:Int) - (a:Int)≤1:=by omega
    clear ih hN hd;refine callsIn_of_wp Tryz.func140 rfl trivial ?_ rfl;simp only [Tryz.ntmps140,List.size_toArray,List.length_cons,List.length_nil,Nat.reduceAdd,Nat.reduceSub,Array.replicate_succ,Array.replicate_zero,List.push_toArray,List.append_toArray,List.nil_append,List.cons_append]
    gi_wp2
    go_ret
    exact .inl ⟨rfl,by rw [HE.out,List.append_nil];exact hJ⟩
   ·have hm:=mid_le a b h1
    have hps:=hf_pos (b - a);have hH:=fun w1=>phalf_any (b - a) (by omega) (by omega) w1
    rw [show (((b - a:Nat)):Int)=(b:Int) - (a:Int) by omega] at hH;have i0:¬ (b:Int) - (a:Int)≤1:=by omega
    by_cases hi:i < a+hf (b - a)
    ·have HE:Hid (sidesS n a b i h=sidesS n a (a+hf (b - a)) i (by omega)++[⟨a+hf (b - a),b,true,by omega,h⟩]):=sidesS_left n a b i h h1 hi _ _
     rw [HE.out] at hN;have ih1:=ih (hf (b - a)) (by omega) a (a+hf (b - a)) i (by omega) (k - 1) pre W (by omega) (by omega) hi4 hJ (by simp at hN;omega);have hy2:=fun W1 (hJ1:J (pre++sidesS n a (a+hf (b - a)) i (by omega)) W1)=>hY (k - 1) _ ⟨a+hf (b - a),b,true,by omega,h⟩ W1 hJ1 (by simp at hN ⊢;omega)
     obtain ⟨X,hX⟩:∃ X,sidesS n a (a+hf (b - a)) i (by omega)=X:=⟨_,rfl⟩;rw [hX] at HE ih1 hy2;obtain ⟨s,hs⟩:∃ s:Side n,s=⟨a+hf (b - a),b,true,by omega,h⟩:=⟨_,rfl⟩;rw [← hs] at HE hy2
     have hy3:∀ W1,J (pre++X) W1→YieldAt Fence.wide (k - 1) Tryz.prog l #[.agg #[.int .i64 ((a:Int)+(hf (b - a):Int)),.int .i64 b,.bool true]] W1 fun e W'=>(e=.returned (.bool true)∧J (pre++X++[s]) W')∨(e=.returned (.bool false)∧Jx (pre++X++[s]) W'):=fun W1 hJ1=>by
      have:=hy2 W1 hJ1;rw [hs] at this ⊢;exact this
     clear hy2 hs hX ih hd hN;rw [show (((a+hf (b - a):Nat)):Int)=(a:Int)+(hf (b - a):Int) by omega] at ih1;have j0:(i:Int) < (a:Int)+(hf (b - a):Int):=by omega
     have x1:IntKind.i64.wrap ((a:Int)+(hf (b - a):Int))=(a:Int)+(hf (b - a):Int):=by rw [IntKind.wrap_i64];omega
     obtain ⟨m,hmm⟩:∃ m,hf (b - a)=m:=⟨_,rfl⟩;rw [hmm] at hH ih1 hy3 j0 x1
     have ih1':=ih1.mono (R':=fun e W1=>(e=.returned (.bool true)∧YieldAt Fence.wide (k - 1) Tryz.prog l #[.agg #[.int .i64 ((a:Int)+(m:Int)),.int .i64 b,.bool true]] W1 fun e W'=>(e=.returned (.bool true)∧J (pre++X++[s]) W')∨(e=.returned (.bool false)∧Jx (pre++X++[s]) W'))∨(e=.returned (.bool false)∧∃ q,q <+: X∧Jx (pre++q) W1))
      (fun e W1 h=>h.elim (fun ⟨he,hj⟩=>.inl ⟨he,hy3 W1 hj⟩) .inr)
     clear ih1 hy3 hmm;refine callsIn_of_wp Tryz.func140 rfl trivial ?_ rfl;simp only [Tryz.ntmps140,List.size_toArray,List.length_cons,List.length_nil,Nat.reduceAdd,Nat.reduceSub,Array.replicate_succ,Array.replicate_zero,List.push_toArray,List.append_toArray,List.nil_append,List.cons_append]
     gi_wp2_with (first
      | ((try refine ⟨trivial,hdd _,?_⟩);gi_at_call 147;refine (callsIn_wide.2 (hH _)).mono ?_;rintro e w1 ⟨rfl,rfl⟩)
      | ((try refine ⟨trivial,hdd _,?_⟩);gi_at_call 140;refine ih1'.mono ?_;clear ih1';rintro e W1 (⟨rfl,fn,tmps,assign,body,hy,hR⟩ | ⟨rfl,q,hq,hx1⟩))
      | ((try refine ⟨hdd _,?_⟩);refine hR.mono ?_;clear hR;rintro e W2 (⟨rfl,hJ2⟩ | ⟨rfl,hx2⟩)))
     ·go_ret
      exact .inl ⟨rfl,by rw [HE.out,← List.append_assoc];exact hJ2⟩
     ·go_ret
      exact .inr ⟨rfl,X++[s],by rw [HE.out];exact List.prefix_refl _,by rw [← List.append_assoc];exact hx2⟩
     ·refine ⟨fun _ h=>(by cases h),?_⟩
      gi_wp2
      go_ret
      exact .inr ⟨rfl,q,by rw [HE.out];exact hq.trans (List.prefix_append _ _),hx1⟩
    ·have HE:Hid (sidesS n a b i h=sidesS n (a+hf (b - a)) b i h++[⟨a,a+hf (b - a),false,by omega,by omega⟩]):=sidesS_right n a b i h h1 hi _ _
     rw [HE.out] at hN;have ih1:=ih (b - (a+hf (b - a))) (by omega) (a+hf (b - a)) b i h (k - 1) pre W rfl (by omega) hi4 hJ (by simp at hN;omega);have hy2:=fun W1 (hJ1:J (pre++sidesS n (a+hf (b - a)) b i h) W1)=>hY (k - 1) _ ⟨a,a+hf (b - a),false,by omega,by omega⟩ W1 hJ1 (by simp at hN ⊢;omega)
     obtain ⟨X,hX⟩:∃ X,sidesS n (a+hf (b - a)) b i h=X:=⟨_,rfl⟩;rw [hX] at HE ih1 hy2;obtain ⟨s,hs⟩:∃ s:Side n,s=⟨a,a+hf (b - a),false,by omega,by omega⟩:=⟨_,rfl⟩;rw [← hs] at HE hy2
     have hy3:∀ W1,J (pre++X) W1→YieldAt Fence.wide (k - 1) Tryz.prog l #[.agg #[.int .i64 a,.int .i64 ((a:Int)+(hf (b - a):Int)),.bool false]] W1 fun e W'=>(e=.returned (.bool true)∧J (pre++X++[s]) W')∨(e=.returned (.bool false)∧Jx (pre++X++[s]) W'):=fun W1 hJ1=>by
      have:=hy2 W1 hJ1;rw [hs] at this ⊢;exact this
     clear hy2 hs hX ih hd hN;rw [show (((a+hf (b - a):Nat)):Int)=(a:Int)+(hf (b - a):Int) by omega] at ih1;have j0:¬ (i:Int) < (a:Int)+(hf (b - a):Int):=by omega
     have x1:IntKind.i64.wrap ((a:Int)+(hf (b - a):Int))=(a:Int)+(hf (b - a):Int):=by rw [IntKind.wrap_i64];omega
     obtain ⟨m,hmm⟩:∃ m,hf (b - a)=m:=⟨_,rfl⟩;rw [hmm] at hH ih1 hy3 j0 x1
     have ih1':=ih1.mono (R':=fun e W1=>(e=.returned (.bool true)∧YieldAt Fence.wide (k - 1) Tryz.prog l #[.agg #[.int .i64 a,.int .i64 ((a:Int)+(m:Int)),.bool false]] W1 fun e W'=>(e=.returned (.bool true)∧J (pre++X++[s]) W')∨(e=.returned (.bool false)∧Jx (pre++X++[s]) W'))∨(e=.returned (.bool false)∧∃ q,q <+: X∧Jx (pre++q) W1))
      (fun e W1 h=>h.elim (fun ⟨he,hj⟩=>.inl ⟨he,hy3 W1 hj⟩) .inr)
     clear ih1 hy3 hmm;refine callsIn_of_wp Tryz.func140 rfl trivial ?_ rfl;simp only [Tryz.ntmps140,List.size_toArray,List.length_cons,List.length_nil,Nat.reduceAdd,Nat.reduceSub,Array.replicate_succ,Array.replicate_zero,List.push_toArray,List.append_toArray,List.nil_append,List.cons_append]
     gi_wp2_with (first
      | ((try refine ⟨trivial,hdd _,?_⟩);gi_at_call 147;refine (callsIn_wide.2 (hH _)).mono ?_;rintro e w1 ⟨rfl,rfl⟩)
      | ((try refine ⟨trivial,hdd _,?_⟩);gi_at_call 140;refine ih1'.mono ?_;clear ih1';rintro e W1 (⟨rfl,fn,tmps,assign,body,hy,hR⟩ | ⟨rfl,q,hq,hx1⟩))
      | ((try refine ⟨hdd _,?_⟩);refine hR.mono ?_;clear hR;rintro e W2 (⟨rfl,hJ2⟩ | ⟨rfl,hx2⟩)))
     ·go_ret
      exact .inl ⟨rfl,by rw [HE.out,← List.append_assoc];exact hJ2⟩
     ·go_ret
      exact .inr ⟨rfl,X++[s],by rw [HE.out];exact List.prefix_refl _,by rw [← List.append_assoc];exact hx2⟩
     ·refine ⟨fun _ h=>(by cases h),?_⟩
      gi_wp2
      go_ret
      exact .inr ⟨rfl,q,by rw [HE.out];exact hq.trans (List.prefix_append _ _),hx1⟩
abbrev sidesF (bN bI:Nat):Value:=.func (.func 139) #[] #[.pointer (some ⟨bN,0,none⟩),.pointer (some ⟨bI,0,none⟩)]
set_option maxHeartbeats 1000000 in
theorem sides1_in (l n i:Nat) (hn:n≤4096) (hi:i≤4096) (bN bI k:Nat) (J Jx:List (Side n)→World→Prop)
 (hY:∀ pre x W,J pre W→pre.length < (sidesS n 0 n i (Nat.le_refl _)).length→YieldAt Fence.wide (k - 1) Tryz.prog l (sideV x) W fun e W'=>(e=.returned (.bool true)∧J (pre++[x]) W'∧True)∨(e=.returned (.bool false)∧Jx (pre++[x]) W'))
 (W:World) (cN:W.cell? ⟨bN,0,none⟩=some (.int .i64 n)) (cI:W.cell? ⟨bI,0,none⟩=some (.int .i64 i)) (h0:J [] W) :
 CallsIn Fence.wide k Tryz.prog 139 #[.func (.yield l) #[] #[],.pointer (some ⟨bN,0,none⟩),.pointer (some ⟨bI,0,none⟩)] W fun e W'=>(∃ v,e=.returned v) ∧
  ((∃ ys,ys=sidesS n 0 n i (Nat.le_refl _)∧J ys W')∨(∃ pre,pre <+: sidesS n 0 n i (Nat.le_refl _)∧Jx pre W')):=by
 have hdd:∀ k:Nat,(Fence.wide.depth.isSome=true→1≤k):=fun k h=>by cases h
 have hp:=tell_in l n (sidesS n 0 n i (Nat.le_refl _)).length hn J Jx (fun m pre x W hj hl=>yield_anyDepth rfl m ((hY pre x W hj hl).mono fun e W' h=>h.elim (fun h=>.inl ⟨h.1,h.2.1⟩) .inr)) (n - 0) 0 n i (Nat.le_refl _) (k - 1) [] W rfl (by omega) hi h0 (by simp);rw [List.nil_append] at hp;refine callsIn_of_wp Tryz.func139 rfl trivial ?_ rfl;simp only [Tryz.ntmps139,List.size_toArray,List.length_cons,List.length_nil,Nat.reduceAdd,Nat.reduceSub,Array.replicate_succ,Array.replicate_zero,List.push_toArray,List.append_toArray,List.nil_append,List.cons_append]
 gi_wp2_with ((try refine ⟨trivial,hdd _,?_⟩);gi_at_call 140;refine hp.mono ?_;clear hp;rintro e W1 (⟨rfl,hJ1⟩ | ⟨rfl,q,hq,hx⟩))
 ·go_end0
  exact ⟨⟨_,rfl⟩,.inl ⟨_,rfl,hJ1⟩⟩
 ·go_end0
  exact ⟨⟨_,rfl⟩,.inr ⟨q,hq,by simpa using hx⟩⟩
theorem sides_stops (n i:Nat) (hn:n≤4096) (hi:i≤4096) (bN bI k:Nat) (w:World) (lN:bN < w.heap.size) (lI:bI < w.heap.size) (cN:w.cell? ⟨bN,0,none⟩=some (.int .i64 n)) (cI:w.cell? ⟨bI,0,none⟩=some (.int .i64 i)) :
 SeqStopsK Fence.wide k Tryz.prog 139 #[.pointer (some ⟨bN,0,none⟩),.pointer (some ⟨bI,0,none⟩)] (fun x:Side n=>sideV x) (fun _ _=>True) (fun ys=>ys=sidesS n 0 n i (Nat.le_refl _)) (fun pre=>pre <+: sidesS n 0 n i (Nat.le_refl _)) (sidesS n 0 n i (Nat.le_refl _)).length w :=
 fun l J Jx W hW _ _ hY h0=>sides1_in l n i hn hi bN bI k J Jx hY W ((hW.cell (p:=⟨bN,0,none⟩) lN).trans cN) ((hW.cell (p:=⟨bI,0,none⟩) lI).trans cI) h0
set_option maxHeartbeats 400000 in
theorem sides_any (n i:Int) (w:World) :
 Calls Tryz.prog 131 #[.int .i64 n,.int .i64 i] w fun e w'=>e=.returned (sidesF w.heap.size (w.heap.size+1))∧w'=(w.alloc (.cells #[.int .i64 n] 3)).alloc (.cells #[.int .i64 i] 3):=by
 go_enter Tryz.func131,Tryz.ntmps131
 go_wp2
 go_ret
 exact ⟨rfl,rfl⟩
end Go.Proofs.YthamoeekiglphaaGreatDoor
namespace Go.Proofs.YthamoeekiglphaaGreatDoor
set_option maxRecDepth 100000
open Go.RowKit Go.Shelf
set_option linter.unusedVariables false
attribute [local go_sem] Oper.semAt_some ba_size
set_option maxHeartbeats 2000000 in
theorem pfits_any (n i:Nat) (hn:n≤4096) (hi:i < n) (p:List (List UInt8)) (v:Value) (w:World) (hT:IsTxt w v p) :
 Calls Tryz.prog 129 #[.int .i64 n,.int .i64 i,v] w fun e w'=>e=.returned (.bool (decide (p.length=(sidesS n 0 n i (Nat.le_refl _)).length∧∀ x∈p,x.length=32)))∧Below w.heap.size w w':=by
 have hT0:=hT;have hN:=sidesS_le n (n - 0) 0 n i (Nat.le_refl _) rfl;have hst:=fun W lN lI cN cI=>sides_stops n i hn (by omega) (w.heap.size+1) (w.heap.size+1+1) (3 - 1) W lN lI cN cI
 obtain ⟨a,cap,rfl,h1,h2,h3⟩:=hT.len;obtain ⟨N,hNN⟩:∃ N,(sidesS n 0 n i (Nat.le_refl _)).length=N:=⟨_,rfl⟩;rw [hNN] at hN hst ⊢;obtain ⟨R,hR⟩:∃ R:Bool,decide (p.length=N∧∀ x∈p,x.length=32)=R:=⟨_,rfl⟩;rw [hR];have HR:Hid (decide (p.length=N∧∀ x∈p,x.length=32)=R):=hR;clear hR;refine (callsIn_wide (n:=3)).1 ?_;refine callsIn_of_wp_marks Tryz.func129 rfl trivial ?_ rfl;simp only [Tryz.ntmps129,List.size_toArray,List.length_cons,List.length_nil,Nat.reduceAdd,Nat.reduceSub,Array.replicate_succ,Array.replicate_zero,List.push_toArray,List.append_toArray,List.nil_append,List.cons_append]
 gi_wp2_with ((try refine ⟨trivial,?_⟩);gi_at_call 131;refine (callsIn_wide.2 (sides_any _ _ _)).mono ?_;rintro e w1 ⟨rfl,rfl⟩)
 have bM:Boxed (((w.alloc (.cells #[.int .i64 0] 3)).alloc (.cells #[.int .i64 n] 3)).alloc (.cells #[.int .i64 i] 3)) w.heap.size 3 (.int .i64 0):=((Boxed.new w 3 (.int .i64 0)).alloc _).alloc _
 have bN:Boxed (((w.alloc (.cells #[.int .i64 0] 3)).alloc (.cells #[.int .i64 n] 3)).alloc (.cells #[.int .i64 i] 3)) (w.heap.size+1) 3 (.int .i64 n):=by
  have:=(Boxed.new (w.alloc (.cells #[.int .i64 0] 3)) 3 (.int .i64 n)).alloc (.cells #[.int .i64 i] 3)
  rwa [World.size_alloc] at this
 have bI:Boxed (((w.alloc (.cells #[.int .i64 0] 3)).alloc (.cells #[.int .i64 n] 3)).alloc (.cells #[.int .i64 i] 3)) (w.heap.size+1+1) 3 (.int .i64 i):=by
  have:=Boxed.new ((w.alloc (.cells #[.int .i64 0] 3)).alloc (.cells #[.int .i64 n] 3)) 3 (.int .i64 i)
  rwa [World.size_alloc,World.size_alloc] at this
 have hB0:Below w.heap.size w (((w.alloc (.cells #[.int .i64 0] 3)).alloc (.cells #[.int .i64 n] 3)).alloc (.cells #[.int .i64 i] 3)):=(((Below.refl _ w).alloc (Nat.le_refl _) _).alloc (by simp) _).alloc (by simp;omega) _
 refine wpIn_rangeFunc_ownG rfl (by omega) (gf:=139) (lb:=#[.pointer (some ⟨w.heap.size+1,0,none⟩),.pointer (some ⟨w.heap.size+1+1,0,none⟩)]) rfl trivial (enters_of Tryz.func139 (by kernel_rfl) rfl)
  (hst _ bN.lt bI.lt bN.cell bI.cell) (fun _ _=>trivial) (fun _ _ _ _ _ _ _ _=>trivial) (Below.refl _ _) (fun _=>rfl)
  (fun pre W=>Boxed W w.heap.size 3 (.int .i64 (pre.length:Nat))∧Below w.heap.size w W)
  (fun _ _ _=>False)
  (OwnFrom.and (Own.from (boxed_own w.heap.size 3 (fun pre:List (Side n)=>.int .i64 (pre.length:Nat))) _) (ownFrom_below (Nat.le_refl _) (by simp;omega)))
  (fun _ _ _ _ _ hs _ _=>hs)
  ⟨bM,hB0⟩
  (fun x=>{ tmps:=#[.int .i64 n,.int .i64 i,.slice a p.length cap,undef,undef,undef,.bool false,.pointer (some ⟨w.heap.size,0,none⟩),undef,undef,.int .i64 n,.int .i64 i,sidesF (w.heap.size+1) (w.heap.size+1+1),.agg #[.int .i64 x.a,.int .i64 x.b,.bool x.r],undef,undef,undef,undef,undef,undef,undef,undef,undef,undef,undef,undef,undef,undef,undef,undef],defers:=[] }) ?assign ?body ?done ?stop
 case assign =>
  intro l x W K hK
  gi_wp2
  simpa using hK
 case body =>
  rintro l pre x W ⟨hb,hB⟩ hlt;have hc:=hb.cell;have hf:=hb.frozen;have x1:IntKind.i64.wrap ((pre.length:Int)+1)=(pre.length:Int)+1:=by rw [IntKind.wrap_i64];omega
  gi_wp2
  refine ⟨(KeepsOthers.setCell _ _ _).from _,trivial,?_,hB.setCell (p:=⟨w.heap.size,0,none⟩) (Nat.le_refl _) _⟩;have:=hb.set (.int .i64 ((pre.length:Int)+1));rw [List.length_append];exact this
 case done =>
  rintro D ys W hD rfl ⟨hb,hB⟩ hK;rw [hNN] at hb;have hc:=hb.cell;have hbD:Below w.heap.size w (W.putObj D (.deferred none)):=hB.trans (belowK_b (w:=w) (Nat.le_refl _) W D _ _ (by simp at hD;omega) hK rfl rfl)
  by_cases hl:p.length=N
  ·have HT:=hT0.below hB
   have hA:p.length=0∨∃ b off,a=some ⟨b,off,none⟩∧Hid (∀ j (h:j < p.length),W.cell? ⟨b,off+j,none⟩=some (.string ⟨p[j].toArray⟩)):=by
    by_cases h0:p.length=0
    ·exact .inl h0
    ·obtain ⟨b,off,cap',hv,_,_,_,_,HC⟩:=HT.at (by omega)
     simp only [Value.slice.injEq] at hv;exact .inr ⟨b,off,hv.1,HC⟩
   have i0:((p.length:Int)==(N:Int))=true:=by rw [hl];simp
   have HL:Hid (p.length=N):=hl;clear hl hT hT0 HT
   gi_wp2
   gi_loopw [22] (fun iv wr=>∃ k:Nat,iv=.int .i64 k∧k≤p.length∧Hid (∀ j (h:j < p.length),j < k→(p[j]'h).length=32)∧wr=W) (fun iv _=>p.length - (RowKit.intOf iv).toNat)
   case atStart=>exact ⟨0,rfl,by omega,fun j h hj=>by omega,rfl⟩
   case round =>
    obtain ⟨k,rfl,hk,H32,rfl⟩:=hrel
    by_cases hkl:k < p.length
    ·rcases hA with hA | ⟨b,off,rfl,HC⟩
     ·omega
     ·have c0:=HC.out k hkl
      have j0:(k:Int) < (p.length:Int):=by omega
      have x1:IntKind.i64.wrap ((k:Int)+1)=(k:Int)+1:=by rw [IntKind.wrap_i64];omega
      by_cases h32:(p[k]'hkl).length=32
      ·have H32':Hid (∀ j (h:j < p.length),j < k+1→(p[j]'h).length=32):=by
        intro j h hj
        by_cases hjk:j=k
        ·subst hjk;exact h32
        ·exact H32.out j h (by omega)
       have i1:(((p[k]'hkl).length:Int)==32)=true:=by rw [h32];rfl
       gi_wp2
       go_roundw
       case rel=>exact ⟨k+1,by first | rfl | go_num | simp,by omega,H32',by first | trivial | rfl⟩
       case measure=>simp [RowKit.intOf];omega
      ·have i1:(((p[k]'hkl).length:Int)==32)=false:=by rw [beq_eq_false_iff_ne];omega
       have HE:Hid (decide (p.length=N∧∀ x∈p,x.length=32)=false):=decide_eq_false fun h=>h32 (h.2 _ (List.getElem_mem hkl))
       gi_wp2
       refine ⟨by simp,.inl ⟨_,_,rfl,run_takeDeferred hK,?_⟩⟩;exact ⟨_,results_tmp rfl _ _ _,by rw [← HR.out,HE.out];rfl,hbD⟩
    ·have j0:¬ (k:Int) < (p.length:Int):=by omega
     have HE:Hid (decide (p.length=N∧∀ x∈p,x.length=32)=true):=decide_eq_true ⟨HL.out,fun x hx=>by
      obtain ⟨j,hj,rfl⟩:=List.getElem_of_mem hx;exact H32.out j hj (by omega)⟩
     gi_wp2
     refine ⟨by simp,.inl ⟨_,_,rfl,run_takeDeferred hK,?_⟩⟩;exact ⟨_,results_tmp rfl _ _ _,by rw [← HR.out,HE.out];rfl,hbD⟩
  ·have HE:Hid (decide (p.length=N∧∀ x∈p,x.length=32)=false):=decide_eq_false fun h=>hl h.1
   have i0:((p.length:Int)==(N:Int))=false:=by rw [beq_eq_false_iff_ne];omega
   gi_wp2
   refine ⟨by simp,.inl ⟨_,_,rfl,run_takeDeferred hK,?_⟩⟩;exact ⟨_,results_tmp rfl _ _ _,by rw [← HR.out,HE.out];rfl,hbD⟩
 case stop =>
  rintro D c pre W _ _ h _;exact h.elim
end Go.Proofs.YthamoeekiglphaaGreatDoor
