/-
  The walk of LeanHolds.
-/
import Derived.Test.YthamoeekiglphaaGreatDoorDL6a
namespace Go.Proofs.YthamoeekiglphaaGreatDoor
set_option maxRecDepth 100000
open Go.RowKit
set_option linter.unusedVariables false
attribute [local go_sem] ba_size
set_option maxHeartbeats 16000000 in
theorem holds15_walk (C:P15C) (w:World) (hGl:G w) (h:List Ev) (vh:Value) (hT:IsEvs w vh h) (pl:List Int) (vp:Value) (hP:IsInts w vp pl) (ek ef et eI eJ:Int) :
 Calls Tryz.prog 8 #[vh,vp,.agg #[.int .i64 ek,.int .i64 ef,.int .i64 et,.int .i64 eI,.int .i64 eJ]] w fun e w'=>e=.returned (.bool true)∧Below w.heap.size w w':=by
 have hg3:=hGl.size
 have HSh:=Lib.hid (fun W (hb:Below w.heap.size w W)=>shown15_any C W (hGl.below hb hg3))
 have HEd:=Lib.hid (fun (l:List Pf) (v:Value) W (hv:IsPfs W v l)=>C.edge l v (ek,ef,et,eI,eJ) W hv)
 have HHo:=Lib.hid (fun W (hb:Below w.heap.size w W)=>rholds_any h vh W (hT.below hb) ek ef et eI eJ)
 obtain ⟨ah,ch,rfl,_,_,_,HH⟩:=hT.reads
 obtain ⟨ap,cp,rfl,_,_,_,HP⟩:=hP.reads
 obtain ⟨n,hn⟩:∃ n,h.length=n:=⟨_,rfl⟩
 obtain ⟨np,hnp⟩:∃ n,pl.length=n:=⟨_,rfl⟩
 have HN:=Lib.hid hn
 have HNP:=Lib.hid hnp
 rw [hn] at HHo HH ⊢
 rw [hnp] at HP ⊢
 have X0:=SBox.new w 32 #[.int .i64 ek,.int .i64 ef,.int .i64 et,.int .i64 eI,.int .i64 eJ]
 have B0:=(Below.refl w.heap.size w).alloc (Nat.le_refl _) (.cells #[.int .i64 ek,.int .i64 ef,.int .i64 et,.int .i64 eI,.int .i64 eJ] 32)
 clear hT hP hn hnp hGl
 go_enter Tryz.func8,Tryz.ntmps8
 go_wp2_with fail
 refine (HSh.out _ B0).mono ?_
 rintro e w1 ⟨rfl,b1⟩
 have B1:=B0.trans (b1.mono B0.size)
 have X1:=X0.below b1
 clear X0 B0 b1
 by_cases g60:60 < n
 ·have j1:(60:Int) < (n:Int):=by omega
  go_wp2_with fail
  go_ret
  exact ⟨rfl,B1⟩
 by_cases g60p:60 < np
 ·have j1:¬ (60:Int) < (n:Int):=by omega
  have j2:(60:Int) < (np:Int):=by omega
  go_wp2_with fail
  go_ret
  exact ⟨rfl,B1⟩
 have j1:¬ (60:Int) < (n:Int):=by omega
 have j2:¬ (60:Int) < (np:Int):=by omega
 go_wp2_with fail
 go_loopw [8] (fun i wr=>∃ a:Nat,a≤n∧i=.int .i64 a∧Hid (okT15 h a)∧Below w.heap.size w wr∧SBox wr w.heap.size 32 #[.int .i64 ek,.int .i64 ef,.int .i64 et,.int .i64 eI,.int .i64 eJ]) (fun i _=>n - (RowKit.intOf i).toNat)
 case atStart=>exact ⟨0,Nat.zero_le _,rfl,(fun _ _ _ hx=>by omega),B1,X1⟩
 case round =>
  obtain ⟨a,ha,rfl,HT,hB,hX⟩:=hrel
  by_cases hlt:a < n
  ·obtain ⟨bb,off,rfl,HC⟩:=HH.out (by omega)
   have i0:(a:Int) < (n:Int):=by omega
   obtain ⟨wA,hwA⟩:∃ wA,wA=wr:=⟨_,rfl⟩
   subst hwA
   go_wp2_with fail
   go_loopw [9] (fun j wr=>∃ b:Nat,b≤a∧j=.int .i64 b∧Hid (∀ c,c < b→okP15 h a c)∧Below w.heap.size w wr∧SBox wr w.heap.size 32 #[.int .i64 ek,.int .i64 ef,.int .i64 et,.int .i64 eI,.int .i64 eJ]) (fun j _=>a - (RowKit.intOf j).toNat)
   case atStart=>exact ⟨0,Nat.zero_le _,rfl,(fun _ hx=>by omega),hB,hX⟩
   case round =>
    obtain ⟨b,hb,rfl,HQ,hB2,hX2⟩:=hrel
    by_cases hlt2:b < a
    ·have k0:(b:Int) < (a:Int):=by omega
     have k1:(b:Int) < (n:Int):=by omega
     have k2:b < n:=by omega
     obtain ⟨q0,q1,q2,q3⟩:=HC.out a hlt wr hB2
     obtain ⟨r0,r1,r2,r3⟩:=HC.out b k2 wr hB2
     obtain ⟨⟨x0,x1,x2,x3⟩,hx⟩:∃ x,ev h a=x:=⟨_,rfl⟩
     obtain ⟨⟨y0,y1,y2,y3⟩,hy⟩:∃ x,ev h b=x:=⟨_,rfl⟩
     have HXY:=Lib.hid (And.intro hx hy)
     rw [hx] at q0 q1 q2 q3
     rw [hy] at r0 r1 r2 r3
     simp only at q0 q1 q2 q3 r0 r1 r2 r3
     clear hx hy
     obtain ⟨b1',h1⟩:∃ z,decide (4≤x0)=z:=⟨_,rfl⟩
     obtain ⟨b2',h2⟩:∃ z,decide (4≤y0)=z:=⟨_,rfl⟩
     obtain ⟨b3',h3⟩:∃ z,(x1==y1)=z:=⟨_,rfl⟩
     obtain ⟨c1',h4⟩:∃ z,(x0==3)=z:=⟨_,rfl⟩
     obtain ⟨c2',h5⟩:∃ z,(y0==3)=z:=⟨_,rfl⟩
     obtain ⟨c3',h6⟩:∃ z,(x3==y3)=z:=⟨_,rfl⟩
     have HO:Hid ((b1'&&b2'&&b3')=false→(c1'&&c2'&&c3')=false→okP15 h a b):=fun u v=>by
      unfold okP15
      rw [HXY.out.1,HXY.out.2]
      refine ⟨fun hh=>?_,fun hh=>?_⟩
      ·rw [← h1,← h2,← h3,decide_eq_true hh.1,decide_eq_true hh.2.1,beq_iff_eq.2 hh.2.2] at u;cases u
      ·rw [← h4,← h5,← h6,beq_iff_eq.2 hh.1,beq_iff_eq.2 hh.2.1,beq_iff_eq.2 hh.2.2] at v;cases v
     go_upto_region 10 with fail
     go_cut [10] from 34 to 60 (fun s10 W=>s10=.bool (b1'&&b2'&&b3')∧Below w.heap.size w W∧SBox W w.heap.size 32 #[.int .i64 ek,.int .i64 ef,.int .i64 et,.int .i64 eI,.int .i64 eJ])
     case first =>
      have H:b1'=false∨(b1'=true∧b2'=false)∨(b1'=true∧b2'=true∧b3'=false)∨(b1'=true∧b2'=true∧b3'=true):=by cases b1'<;>cases b2'<;>cases b3'<;>simp
      rcases H with rfl | ⟨rfl,rfl⟩ | ⟨rfl,rfl,rfl⟩ | ⟨rfl,rfl,rfl⟩
      all_goals
       go_quiet (fail)
       go_wp2_with fail
       go_meet
       exact ⟨rfl,below_drewN hB2 _,by exact hX2⟩
     obtain ⟨rfl,hB3,hX3⟩:=hcut
     clear q0 q1 q2 q3 r0 r1 r2 r3 hB2 hX2 h1 h2 h3
     obtain ⟨q0,q1,q2,q3⟩:=HC.out a hlt wc hB3
     obtain ⟨r0,r1,r2,r3⟩:=HC.out b k2 wc hB3
     rw [HXY.out.1] at q0 q1 q2 q3
     rw [HXY.out.2] at r0 r1 r2 r3
     simp only at q0 q1 q2 q3 r0 r1 r2 r3
     generalize hE:(b1'&&b2'&&b3')=E at HO ⊢
     obtain ⟨wP,hwP⟩:∃ W,wc=W:=⟨_,rfl⟩
     rw [hwP] at q0 q1 q2 q3 r0 r1 r2 r3 hB3 hX3 ⊢
     clear hwP
     go_upto_region 11 with fail
     go_cut [90] from 61 to 89 (fun s90 W=>s90=.bool (E || (c1'&&c2'&&c3'))∧Below w.heap.size w W∧SBox W w.heap.size 32 #[.int .i64 ek,.int .i64 ef,.int .i64 et,.int .i64 eI,.int .i64 eJ])
     case first =>
      have H:E=true∨(E=false∧c1'=false)∨(E=false∧c1'=true∧c2'=false)∨(E=false∧c1'=true∧c2'=true∧c3'=false)∨(E=false∧c1'=true∧c2'=true∧c3'=true):=by cases E<;>cases c1'<;>cases c2'<;>cases c3'<;>simp
      clear hE
      rcases H with rfl | ⟨rfl,rfl⟩ | ⟨rfl,rfl,rfl⟩ | ⟨rfl,rfl,rfl,rfl⟩ | ⟨rfl,rfl,rfl,rfl⟩
      all_goals
       go_quiet (fail)
       go_wp2_with fail
       go_meet
       exact ⟨by simp,below_drewN hB3 _,by exact hX3⟩
     obtain ⟨rfl,hB4,hX4⟩:=hcut
     clear q0 q1 q2 q3 r0 r1 r2 r3 hB3 hX3 h4 h5 h6 hE
     generalize hR:(E || (c1'&&c2'&&c3'))=R
     have HR:Hid (R=false→okP15 h a b):=fun u=>by
      rw [← hR,Bool.or_eq_false_iff] at u
      exact HO.out u.1 u.2
     clear hR HO
     cases R with
     | true =>
       go_wp2_with fail
       go_ret
       exact ⟨rfl,hB4⟩
     | false =>
       go_wp2_with fail
       go_roundw
       case rel=>exact ⟨b+1,by omega,by first | go_num | simp,(fun c hc=>by
        by_cases ec:c=b
        ·subst ec;exact HR.out rfl
        ·exact HQ.out c (by omega)),hB4,hX4⟩
       case measure=>simp [RowKit.intOf];omega
    ·obtain rfl:b=a:=by omega
     have k0:¬ (b:Int) < (b:Int):=by omega
     have HTn:Hid (okT15 h (b+1)):=okT_next HT.out HQ.out
     obtain ⟨q0,q1,q2,q3⟩:=HC.out b hlt wr hB2
     obtain ⟨⟨x0,x1,x2,x3⟩,hx⟩:∃ x,ev h b=x:=⟨_,rfl⟩
     rw [hx] at q0 q1 q2 q3
     simp only at q0 q1 q2 q3
     clear hx
     by_cases d1:x1 < 0
     ·go_wp2_with fail
      go_ret
      exact ⟨rfl,hB2⟩
     by_cases d2:60 < x1
     ·have d1':¬ x1 < 0:=d1
      go_wp2_with fail
      go_ret
      exact ⟨rfl,hB2⟩
     by_cases d3:5 < x0
     ·go_wp2_with fail
      go_ret
      exact ⟨rfl,hB2⟩
     go_wp2_with fail
     go_roundw
     case rel=>exact ⟨b+1,by omega,by first | go_num | simp,HTn,hB2,hX2⟩
     case measure=>simp [RowKit.intOf];omega
  ·obtain rfl:a=n:=by omega
   have i0:¬ (a:Int) < (a:Int):=by omega
   obtain ⟨i1,hi,hz0,hz1,hz2⟩:=info_parts pf_infoM
   go_wp2_with fail
   obtain ⟨wA,hwA⟩:∃ wA,wA=wr:=⟨_,rfl⟩
   subst hwA
   go_loopw [11,12] (fun r j wr=>∃ (b:Nat) (L:List Pf),b≤np∧j=.int .i64 b∧L.length≤b∧Hid (trueOf h (L.map peOf)∧∀ p∈L,p.2.2=[])∧Below w.heap.size w wr∧SBox wr w.heap.size 32 #[.int .i64 ek,.int .i64 ef,.int .i64 et,.int .i64 eI,.int .i64 eJ]∧wr.ownsRow wA.heap.size 55 6 r L.length (recV pfV (L.map pz15))∧wA.heap.size≤wr.heap.size) (fun _ j _=>np - (RowKit.intOf j).toNat)
   case atStart=>exact ⟨0,[],Nat.zero_le _,rfl,Nat.zero_le _,⟨fun p hp=>by simp at hp,fun p hp=>by simp at hp⟩,hB,hX,World.ownsRow_nil _ _ _ _,Nat.le_refl _⟩
   case round =>
    obtain ⟨b,L,hb,rfl,hLb,HTr,hB2,hX2,hrow,hsz⟩:=hrel
    obtain ⟨ra,rc,rfl,-⟩:=own_slice9 hrow
    by_cases hlt2:b < np
    ·obtain ⟨pb,po,rfl,HPC⟩:=HP.out (by omega)
     have k0:(b:Int) < (np:Int):=by omega
     have pc:=HPC.out b hlt2 wr hB2
     obtain ⟨pv,hpv⟩:∃ z,pl.getD b 0=z:=⟨_,rfl⟩
     have HPV0:=Lib.hid hpv
     rw [hpv] at pc
     clear hpv
     by_cases d1:0≤pv
     rotate_left
     ·have d1':¬ (0:Int)≤pv:=d1
      go_wp2_with fail
      go_roundw
      case rel=>exact ⟨b+1,L,by omega,by first | go_num | simp,by omega,HTr,hB2,hX2,hrow,hsz⟩
      case measure=>simp [RowKit.intOf];omega
     by_cases d2:pv < (a:Int)
     rotate_left
     ·have d2':¬ pv < (a:Int):=d2
      go_wp2_with fail
      go_roundw
      case rel=>exact ⟨b+1,L,by omega,by first | go_num | simp,by omega,HTr,hB2,hX2,hrow,hsz⟩
      case measure=>simp [RowKit.intOf];omega
     obtain ⟨m,rfl⟩:∃ m:Nat,pv=(m:Int):=⟨pv.toNat,by omega⟩
     have HPV:=HPV0
     clear HPV0
     have m1:m < a:=by omega
     obtain ⟨bb,off,rfl,HC⟩:=HH.out (by omega)
     obtain ⟨q0,q1,q2,q3⟩:=HC.out m m1 wr hB2
     have HTn:=Lib.hid (true_snoc15 HTr.out.1 m (by rw [HN.out];exact m1))
     obtain ⟨⟨x0,x1,x2,x3⟩,hx⟩:∃ x,ev h m=x:=⟨_,rfl⟩
     have HXm:=Lib.hid hx
     rw [hx] at q0 q1 q2 q3
     simp only at q0 q1 q2 q3
     clear hx
     go_wp2_with fail
     refine wp_region_any (by kernel_rfl) ?_
     change wpAny _ _ _ _ _ _ _ (World.drew _)
     generalize hwd:World.drew _=wd
     have Bd:=hB2.drew
     have Xd:=hX2.drew
     have Rd:=owns_below hrow (Below.refl _ wr).drew
     have hszd:wA.heap.size≤wr.drew.heap.size:=hsz
     have pcd:wr.drew.cell? ⟨pb,po+b,none⟩=some (.int .i64 (m:Int)):=pc
     have q0d:wr.drew.cell? ⟨bb,off+m*4,none⟩=some (.int .i64 x0):=q0
     have q1d:wr.drew.cell? ⟨bb,off+m*4+1,none⟩=some (.int .i64 x1):=q1
     have q2d:wr.drew.cell? ⟨bb,off+m*4+2,none⟩=some (.string ⟨x2.toArray⟩):=q2
     have q3d:wr.drew.cell? ⟨bb,off+m*4+3,none⟩=some (.string ⟨x3.toArray⟩):=q3
     rw [hwd] at Bd Xd Rd hszd pcd q0d q1d q2d q3d
     clear hwd pc q0 q1 q2 q3 hB2 hX2 hrow hsz
     have HCW:Hid (∀ V,Below wd.heap.size wd V→V.cell? ⟨pb,po+b,none⟩=some (.int .i64 (m:Int))∧V.cell? ⟨bb,off+m*4,none⟩=some (.int .i64 x0)∧V.cell? ⟨bb,off+m*4+1,none⟩=some (.int .i64 x1)∧V.cell? ⟨bb,off+m*4+2,none⟩=some (.string ⟨x2.toArray⟩)∧V.cell? ⟨bb,off+m*4+3,none⟩=some (.string ⟨x3.toArray⟩)):=fun V hV=>⟨cell_bel hV pcd,cell_bel hV q0d,cell_bel hV q1d,cell_bel hV q2d,cell_bel hV q3d⟩
     clear pcd q0d q1d q2d q3d
     refine any_of_C (C:=fun V=>V.cell? ⟨pb,po+b,none⟩=some (.int .i64 (m:Int))∧V.cell? ⟨bb,off+m*4,none⟩=some (.int .i64 x0)∧V.cell? ⟨bb,off+m*4+1,none⟩=some (.int .i64 x1)∧V.cell? ⟨bb,off+m*4+2,none⟩=some (.string ⟨x2.toArray⟩)∧V.cell? ⟨bb,off+m*4+3,none⟩=some (.string ⟨x3.toArray⟩)) 15 _ _ _ _ ?_
     refine takeD 0 (.slice ra L.length rc) rfl (by kernel_rfl) (fun _ _ _ h=>h) (fun V hV=>by obtain ⟨y5,y0,y1,y2,y3⟩:=hV;go_simp) ?_
     refine takeD 1 (.slice (some ⟨pb,po,none⟩) np cp) rfl (by kernel_rfl) (fun _ _ _ h=>h) (fun V hV=>by obtain ⟨y5,y0,y1,y2,y3⟩:=hV;go_simp) ?_
     refine takeD 2 (.int .i64 (b:Int)) rfl (by kernel_rfl) (fun _ _ _ h=>h) (fun V hV=>by obtain ⟨y5,y0,y1,y2,y3⟩:=hV;go_simp) ?_
     refine takeD 3 (.pointer (some ⟨pb,po+b,none⟩)) rfl (by kernel_rfl) (fun _ _ _ h=>h) (fun V hV=>by obtain ⟨y5,y0,y1,y2,y3⟩:=hV;go_simp) ?_
     refine takeD 4 (.int .i64 (m:Int)) rfl (by kernel_rfl) (fun _ _ _ h=>h) (fun V hV=>by obtain ⟨y5,y0,y1,y2,y3⟩:=hV;go_simp) ?_
     refine takeD 5 (.slice (some ⟨bb,off,none⟩) a ch) rfl (by kernel_rfl) (fun _ _ _ h=>h) (fun V hV=>by obtain ⟨y5,y0,y1,y2,y3⟩:=hV;go_simp) ?_
     refine takeD 6 (.slice (some ⟨pb,po,none⟩) np cp) rfl (by kernel_rfl) (fun _ _ _ h=>h) (fun V hV=>by obtain ⟨y5,y0,y1,y2,y3⟩:=hV;go_simp) ?_
     refine takeD 7 (.int .i64 (b:Int)) rfl (by kernel_rfl) (fun _ _ _ h=>h) (fun V hV=>by obtain ⟨y5,y0,y1,y2,y3⟩:=hV;go_simp) ?_
     refine takeD 8 (.pointer (some ⟨pb,po+b,none⟩)) rfl (by kernel_rfl) (fun _ _ _ h=>h) (fun V hV=>by obtain ⟨y5,y0,y1,y2,y3⟩:=hV;go_simp) ?_
     refine takeD 9 (.int .i64 (m:Int)) rfl (by kernel_rfl) (fun _ _ _ h=>h) (fun V hV=>by obtain ⟨y5,y0,y1,y2,y3⟩:=hV;go_simp) ?_
     refine takeD 10 (.pointer (some ⟨bb,off+m*4,none⟩)) rfl (by kernel_rfl) (fun _ _ _ h=>h) (fun V hV=>by obtain ⟨y5,y0,y1,y2,y3⟩:=hV;go_simp) ?_
     refine takeD 11 (.agg #[.int .i64 x0,.int .i64 x1,.string ⟨x2.toArray⟩,.string ⟨x3.toArray⟩]) rfl (by kernel_rfl) (fun _ _ _ h=>h) (fun V hV=>by obtain ⟨y5,y0,y1,y2,y3⟩:=hV;go_simp) ?_
     refine takeD 12 (.agg #[.int .i64 (m:Int),.int .i64 x0,.int .i64 x1,.string ⟨x2.toArray⟩,.string ⟨x3.toArray⟩,.slice none 0 0]) rfl (by kernel_rfl) (fun _ _ _ h=>h) (fun V hV=>by obtain ⟨y5,y0,y1,y2,y3⟩:=hV;go_simp) ?_
     refine consC (i:=13) (by kernel_rfl) (by kernel_rfl) (HCW.out wd (Below.refl _ _)) rfl (fun K hK=>?_)
     go_wp2_with fail
     have h5:(wd.alloc (.cells #[.int .i64 (m:Int),.int .i64 x0,.int .i64 x1,.string ⟨x2.toArray⟩,.string ⟨x3.toArray⟩,.slice none 0 0] 55)).ownsRow wd.heap.size 55 6 (.slice (some ⟨wd.heap.size,0,none⟩) 1 1) 1 [.int .i64 (m:Int),.int .i64 x0,.int .i64 x1,.string ⟨x2.toArray⟩,.string ⟨x3.toArray⟩,.slice none 0 0]:=own_one15 wd 55 6 [.int .i64 (m:Int),.int .i64 x0,.int .i64 x1,.string ⟨x2.toArray⟩,.string ⟨x3.toArray⟩,.slice none 0 0] rfl
     have T:=(Below.refl wd.heap.size wd).alloc (Nat.le_refl _) (.cells #[.int .i64 (m:Int),.int .i64 x0,.int .i64 x1,.string ⟨x2.toArray⟩,.string ⟨x3.toArray⟩,.slice none 0 0] 55)
     have R5:=Rd.alloc (.cells #[.int .i64 (m:Int),.int .i64 x0,.int .i64 x1,.string ⟨x2.toArray⟩,.string ⟨x3.toArray⟩,.slice none 0 0] 55)
     obtain ⟨V1,hV1⟩:∃ V1,wd.alloc (.cells #[.int .i64 (m:Int),.int .i64 x0,.int .i64 x1,.string ⟨x2.toArray⟩,.string ⟨x3.toArray⟩,.slice none 0 0] 55)=V1:=⟨_,rfl⟩
     rw [hV1] at h5 T R5 ⊢
     refine consC (i:=14) (by kernel_rfl) (by kernel_rfl) (HCW.out V1 T) rfl (fun K hK=>?_)
     have HR5:=Lib.hid R5
     have HH5:=Lib.hid h5
     have HT5:=Lib.hid T
     have HBd:=Lib.hid Bd
     have hAd:=Lib.hid hszd
     have hXl:=hX.lt
     have X5:=Xd.alloc (.cells #[.int .i64 (m:Int),.int .i64 x0,.int .i64 x1,.string ⟨x2.toArray⟩,.string ⟨x3.toArray⟩,.slice none 0 0] 55)
     have B5:=Bd.alloc Bd.size (.cells #[.int .i64 (m:Int),.int .i64 x0,.int .i64 x1,.string ⟨x2.toArray⟩,.string ⟨x3.toArray⟩,.slice none 0 0] 55)
     rw [hV1] at X5 B5
     have HX5:=Lib.hid X5
     have HB5:=Lib.hid B5
     clear X5 B5 hV1 R5 h5 T Bd Xd Rd
     refine app17 rfl _ _ 28 55 6 80 (.agg #[.int .i64 0,.int .i64 0,.int .i64 0,.string ByteArray.empty,.string ByteArray.empty,.slice none 0 0]) rfl Tryz.underlying28 pf_infoM rfl (by decide) (by decide) wA.heap.size _ L.length (recV pfV (L.map pz15)) rfl HR5.out _ 1 _ rfl (src_own HH5.out) (by intro u hu;simp at hu;rcases hu with rfl | rfl | rfl | rfl | rfl | rfl<;>rfl) (by omega) (Nat.le_trans hAd.out HT5.out.size) ?_
     intro v2 V2 h2 g2
     have B6:=HB5.out.grown g2 HB5.out.size (fun j ej=>by have:=(HR5.out.lt j ej).1;omega)
     have X6:SBox V2 w.heap.size 32 #[.int .i64 ek,.int .i64 ef,.int .i64 et,.int .i64 eI,.int .i64 eJ]:=(g2.block w.heap.size HX5.out.lt (fun e=>by have:=(HR5.out.lt _ e.symm).1;omega)).trans HX5.out
     have s6:wA.heap.size≤V2.heap.size:=Nat.le_trans (Nat.le_trans hAd.out HT5.out.size) g2.size
     have c6:=HCW.out V1 HT5.out
     have e6:recV pfV (L.map pz15)++[.int .i64 (m:Int),.int .i64 x0,.int .i64 x1,.string ⟨x2.toArray⟩,.string ⟨x3.toArray⟩,.slice none 0 0]=recV pfV ((L++[((m:Int),ev h m,[])]).map pz15):=by
      rw [List.map_append,recV_append,HXm.out];rfl
     rw [e6] at h2
     have hC2:V2.cell? ⟨pb,po+b,none⟩=some (.int .i64 (m:Int))∧V2.cell? ⟨bb,off+m*4,none⟩=some (.int .i64 x0)∧V2.cell? ⟨bb,off+m*4+1,none⟩=some (.int .i64 x1)∧V2.cell? ⟨bb,off+m*4+2,none⟩=some (.string ⟨x2.toArray⟩)∧V2.cell? ⟨bb,off+m*4+3,none⟩=some (.string ⟨x3.toArray⟩):=by
      obtain ⟨z0,z1,z2,z3⟩:=HC.out m m1 V2 B6
      rw [HXm.out] at z0 z1 z2 z3
      have z4:=HPC.out b hlt2 V2 B6
      rw [HPV.out] at z4
      exact ⟨z4,z0,z1,z2,z3⟩
     have H2:=Lib.hid h2
     have HB6:=Lib.hid B6
     have HX6:=Lib.hid X6
     clear h2 B6 X6 g2 c6 e6 HX5 HB5 HR5 HH5
     go_wp2_with fail
     refine lastC (by kernel_rfl) (by kernel_rfl) hC2 (of_decide_eq_true (by kernel_rfl)) ?_
     refine any_seqI [15] [_] _ _ _ rfl (by kernel_rfl) ?_
     clear hC2
     go_wp2_with fail
     go_roundw
     case rel=>exact ⟨b+1,L++[((m:Int),ev h m,[])],by omega,by first | go_num | simp,by simp;omega,⟨HTn.out,fun p hp=>by
      rcases List.mem_append.1 hp with hp | hp
      ·exact HTr.out.2 p hp
      ·rw [List.mem_singleton] at hp;rw [hp]⟩,HB6.out,HX6.out,by rw [List.length_append];exact H2.out,s6⟩
     case measure=>simp [RowKit.intOf];omega
    ·obtain rfl:b=np:=by omega
     have k0:¬ (b:Int) < (b:Int):=by omega
     have hpf:IsPfs wr (.slice ra L.length rc) L:=IsPfs.own (L':=L.map pz15) (by rw [List.length_map];exact hrow) (pz_of15 wr L HTr.out.2) (by rw [List.length_map];omega)
     have CE:=HEd.out L _ wr hpf
     have c0:=hX2.cell 0 _ rfl
     have c1:=hX2.cell 1 _ rfl
     have c2:=hX2.cell 2 _ rfl
     have c3:=hX2.cell 3 _ rfl
     have c4:=hX2.cell 4 _ rfl
     have HX2:=Lib.hid hX2
     have HF:Hid (edgeB L (ek,ef,et,eI,eJ)=true→holdsC h (ek,ef,et,eI,eJ)=true):=fun he=>holds_of15 HTr.out.1 (by rw [HN.out];exact HT.out) _ he
     clear hpf hrow hX2
     cases he:edgeB L (ek,ef,et,eI,eJ) with
     | false =>
       rw [he] at CE
       clear he
       go_wp2_with fail
       refine CE.mono ?_
       rintro e w5 ⟨rfl,b5⟩
       have B5:=hB2.trans (b5.mono hB2.size)
       clear CE
       go_wp2_with fail
       go_ret
       exact ⟨rfl,B5⟩
     | true =>
       rw [he] at CE
       have HT2:=Lib.hid (HF.out he)
       clear he
       go_wp2_with fail
       refine CE.mono ?_
       rintro e w5 ⟨rfl,b5⟩
       have B5:=hB2.trans (b5.mono hB2.size)
       have X5:=HX2.out.below b5
       have D:=HHo.out w5 B5
       rw [HT2.out] at D
       clear CE c0 c1 c2 c3 c4
       have c0:=X5.cell 0 _ rfl
       have c1:=X5.cell 1 _ rfl
       have c2:=X5.cell 2 _ rfl
       have c3:=X5.cell 3 _ rfl
       have c4:=X5.cell 4 _ rfl
       go_wp2_with fail
       refine D.mono ?_
       rintro e w6 ⟨rfl,b6⟩
       have B6:=B5.trans (b6.mono B5.size)
       clear D
       go_wp2_with fail
       go_ret
       exact ⟨rfl,B6⟩
end Go.Proofs.YthamoeekiglphaaGreatDoor
