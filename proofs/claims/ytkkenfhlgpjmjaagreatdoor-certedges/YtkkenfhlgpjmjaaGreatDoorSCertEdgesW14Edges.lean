/-
  The walk of CertEdges.
-/
import Derived.Test.YtkkenfhlgpjmjaaGreatDoorSCertEdgesL0a
import Derived.Deep.CutRange
namespace Go.Proofs.YtkkenfhlgpjmjaaGreatDoor
set_option maxRecDepth 100000
open Go.RowKit
set_option linter.unusedVariables false
attribute [local go_sem] ba_size
theorem int_infoE:(Tryz.prog.info? 3).map (fun i=>(i.zero,i.size,i.bytes))=some (some (.int .i64 0),1,8):=by kernel_rfl
theorem own_intE (w:World) (e n:Nat) (L:List Int) (hn:L.length=n) (hs:n≤1000):(w.alloc (.cells (recV intV L).toArray e)).ownsRow w.heap.size e 1 (.slice (some ⟨w.heap.size,0,none⟩) n n) n (recV intV L) :=
 ⟨by rw [recV_length intV_len,hn],.inr ⟨w.heap.size,n,_,rfl,Nat.le_refl _,SBox.new w e _,Nat.le_refl _,by unfold maxLen;omega,by rw [List.size_toArray,recV_length intV_len,hn],by rw [List.toList_toArray,List.take_of_length_le (by rw [recV_length intV_len,hn];exact Nat.le_refl _)]⟩⟩
theorem own_shapeE {W:World} {B e k n:Nat} {v:Value} {xs:List Value} (h:W.ownsRow B e k v n xs):∃ ad c,v=.slice ad n c:=by
 rcases h.2 with ⟨rfl,rfl⟩ | ⟨g,cap,cur,rfl,_⟩
 ·exact ⟨none,0,rfl⟩
 ·exact ⟨_,_,rfl⟩
structure E14 (w W:World) (cs:Array Value) (v:Value) (L:List Int):Prop where
 b:Below w.heap.size w W
 x:SBox W w.heap.size 28 cs
 row:W.ownsRow w.heap.size 3 1 v L.length (recV intV L)
theorem E14.push {w W W':World} {cs:Array Value} {v v':Value} {L:List Int} {x:Int} (h:E14 w W cs v L) (hown:W'.ownsRow w.heap.size 3 1 v' (L.length+1) (recV intV L++[.int .i64 x])) (hg:(W.alloc (.cells #[.int .i64 x] 3)).grownBy W' v.ownBlock):E14 w W' cs v' (L++[x]):=by
 refine ⟨(h.b.alloc h.b.size (.cells #[.int .i64 x] 3)).grown hg (by have:=h.b.size;rw [World.size_alloc];omega) (fun j hj=>(h.row.lt j hj).1),(hg.block _ (h.x.alloc (.cells #[.int .i64 x] 3)).lt (block_not_row h.x (by decide) h.row)).trans (h.x.alloc (.cells #[.int .i64 x] 3)),?_⟩
 rw [List.length_append,recV_append]
 exact hown
theorem E14.keep {w W W':World} {cs:Array Value} {v:Value} {L:List Int} {x:Int} {B:Nat} {zc:Array Value} (h:E14 w W cs v L) (hg:(W.alloc (.cells #[.int .i64 x] 3)).grownBy W' v.ownBlock) (hz:SBox W B 73 zc):SBox W' B 73 zc :=
 (hg.block _ (hz.alloc (.cells #[.int .i64 x] 3)).lt (block_not_row hz (by decide) h.row)).trans (hz.alloc (.cells #[.int .i64 x] 3))
def InE (b0:Bool) (NL:List Int) (x:Int) (m:Nat) (t:Bool):Prop:=t=true↔(b0=true∨∃ j,j < m∧NL.getD j 0=x)
def okW (h:List Ev) (NL:List Int) (x:Int):Prop:=x < 0∨(h.length:Int)≤x∨x∈NL
theorem okW_edge (h:List Ev) (v:Vd) (hv:v.2.1=false) (hb:v.2.2.2.1.1=0) (e:Ed) (he:e∈v.2.2.2.2):okW h ((needN h v).map Int.ofNat) e.2.2.2.1∧okW h ((needN h v).map Int.ofNat) e.2.2.2.2∧((findP h e.2.1).2=true→okW h ((needN h v).map Int.ofNat) ((findP h e.2.1).1.2.2.1:Int))∧((findP h e.2.2.1).2=true→okW h ((needN h v).map Int.ofNat) ((findP h e.2.2.1).1.2.2.1:Int)):=by
 have key:∀ x:Int,(∀ n:Nat,x=(n:Int)→n < h.length→n∈needN h v)→okW h ((needN h v).map Int.ofNat) x:=fun x hx=>by
  unfold okW
  by_cases h0:x < 0
  ·exact .inl h0
  ·by_cases h1:(h.length:Int)≤x
   ·exact .inr (.inl h1)
   ·refine .inr (.inr (List.mem_map.2 ⟨x.toNat,hx x.toNat (by omega) (by omega),?_⟩))
    show ((x.toNat:Nat):Int)=x
    omega
 have fnd:∀ t:Int,(findP h t).2=true→∀ n:Nat,((findP h t).1.2.2.1:Int)=(n:Int)→endsAt h t (n:Int)=true:=fun t ht n hn=>by
  unfold findP at ht hn
  unfold endsAt
  cases hf:findL h t with
  | none=>rw [hf] at ht;cases ht
  | some y=>rw [hf] at hn;simp only at hn ⊢;exact decide_eq_true hn
 refine ⟨key _ fun n hn hl=>need_edge h v hv hb e he n hl (.inl hn),key _ fun n hn hl=>need_edge h v hv hb e he n hl (.inr (.inl hn)),fun hf=>key _ fun n hn hl=>need_edge h v hv hb e he n hl (.inr (.inr (.inl (fnd _ hf n hn)))),fun hf=>key _ fun n hn hl=>need_edge h v hv hb e he n hl (.inr (.inr (.inr (fnd _ hf n hn))))⟩
set_option maxHeartbeats 4000000 in
theorem edges14_walk (C:P14C) (w:World) (hGl:G w) (vh:Value) (h:List Ev) (Th:IsEvs w vh h) (Gh:∀ x∈h,goodE x) (v:Vd) (vo vr:Value) (Ao:IsInts w vo v.2.2.1) (Ar:IsEds w vr v.2.2.2.2) (i:Int) :
 Calls Tryz.prog 9 #[vh,.agg (vdC v vo vr),.int .i64 i] w fun e w'=>e=.returned (.bool true)∧Below w.heap.size w w':=by
 obtain ⟨i0,hi,hz0,hz1,hz2⟩:=info_parts int_infoE
 have HSh:=Lib.hid (fun W (hb:Below w.heap.size w W)=>shown14_any C W (hGl.below hb hGl.size))
 have HF:=Lib.hid (fun W (hb:Below w.heap.size w W)=>few14_any vh h W (Th.below hb))
 have CN:=Lib.hid (fun (h1:h.length≤100000) (h2:v.2.2.2.2.length≤100000) W (hb:Below w.heap.size w W)=>C.needs h v vh vo vr W (Th.below hb) Gh (Ao.below hb) (Ar.below hb) h1 h2)
 have CF:=fun t W (hb:Below w.heap.size w W)=>rfind_any h vh W (Th.below hb) t
 have HE:=Lib.hid (okW_edge h v)
 have hnl:=need_len h v
 rw [← List.length_map (f:=Int.ofNat)] at hnl
 obtain ⟨NL,hNL⟩:∃ y,(needN h v).map Int.ofNat=y:=⟨_,rfl⟩
 rw [hNL] at CN HE hnl
 clear hNL
 obtain ⟨lv,ac,o,⟨p,q,r⟩,g⟩:=v
 simp only at Ao Ar CN HE ⊢
 obtain ⟨oa,oc,rfl,o1,o2,o3,_⟩:=Ao.some_at
 obtain ⟨ra,rc,rfl,k1,k2,k3,HG⟩:=IsEds.reads Ar
 obtain ⟨ah,ch,rfl,i1,i2,i3,_⟩:=Th.some_at
 obtain ⟨no,hno⟩:∃ m,o.length=m:=⟨_,rfl⟩
 obtain ⟨ng,hng⟩:∃ m,g.length=m:=⟨_,rfl⟩
 obtain ⟨nh,hnh⟩:∃ m,h.length=m:=⟨_,rfl⟩
 have HNg:=Lib.hid hng
 have HNh:=Lib.hid hnh
 simp only [hno,hng,hnh] at HF CN CF hnl o1 k1 k3 i1 i3 ⊢
 clear hno hng hnh Ao Ar Th Gh
 obtain ⟨fw,hfw⟩:∃ b,decide (nh≤60)=b:=⟨_,rfl⟩
 rw [hfw] at HF
 obtain ⟨bb,hbb⟩:∃ b:Bool,b=decide (¬ (nh≤60∧ng≤40∧ac=false∧p=0∧0≤i∧i < (ng:Int))):=⟨_,rfl⟩
 have HBB:=Lib.hid hbb
 clear hbb
 have X0:=SBox.new w 28 #[.int .i64 lv,.bool ac,.slice oa no oc,.int .i64 p,.int .i64 q,.int .i64 r,.slice ra ng rc]
 have B0:=(Below.refl w.heap.size w).alloc (Nat.le_refl _) (.cells #[.int .i64 lv,.bool ac,.slice oa no oc,.int .i64 p,.int .i64 q,.int .i64 r,.slice ra ng rc] 28)
 generalize hW0:w.alloc (.cells #[.int .i64 lv,.bool ac,.slice oa no oc,.int .i64 p,.int .i64 q,.int .i64 r,.slice ra ng rc] 28)=W0 at X0 B0
 go_enter Tryz.func9,Tryz.ntmps9
 go_upto_region 1 with fail
 (try rw [hW0])
 clear hW0
 go_wp2_with fail
 refine (HSh.out _ B0).mono ?_
 rintro e w1 ⟨rfl,b1⟩
 have B1:=bel_trans B0 b1
 have X1:=X0.below b1
 clear X0 B0 b1
 go_wp2_with fail
 refine (HF.out _ B1).mono ?_
 rintro e w2 ⟨rfl,rfl⟩
 have c0:=X1.cell 0 _ rfl
 have c1:=X1.cell 1 _ rfl
 have c2:=X1.cell 2 _ rfl
 have c3:=X1.cell 3 _ rfl
 have c4:=X1.cell 4 _ rfl
 have c5:=X1.cell 5 _ rfl
 have c6:=X1.cell 6 _ rfl
 go_upto_region 3 with fail
 go_cut [50] from 22 to 50 (fun x W=>x=.bool bb∧W=w2)
 case first =>
  cases fw with
  | false =>
    have hb:bb=true:=by rw [HBB.out];exact decide_eq_true (fun hh=>absurd hh.1 (of_decide_eq_false hfw))
    subst hb
    go_wp2_with fail
    go_meet
    exact ⟨rfl,rfl⟩
  | true =>
    have d1:=of_decide_eq_true hfw
    by_cases d2:40 < ng
    ·have hb:bb=true:=by rw [HBB.out];exact decide_eq_true (fun hh=>by omega)
     have j2:(40:Int) < (ng:Int):=by omega
     subst hb
     go_wp2_with fail
     go_meet
     exact ⟨rfl,rfl⟩
    ·have j2:¬ (40:Int) < (ng:Int):=by omega
     cases ac with
     | true =>
       have hb:bb=true:=by rw [HBB.out];exact decide_eq_true (fun hh=>by cases hh.2.2.1)
       subst hb
       go_wp2_with fail
       go_meet
       exact ⟨rfl,rfl⟩
     | false =>
       by_cases d3:p=0
       ·have j3:(p != 0)=false:=by rw [d3];rfl
        by_cases d4:i < 0
        ·have hb:bb=true:=by rw [HBB.out];exact decide_eq_true (fun hh=>by omega)
         subst hb
         clear d3
         go_wp2_with fail
         go_meet
         exact ⟨rfl,rfl⟩
        ·by_cases d5:(ng:Int)≤i
         ·have hb:bb=true:=by rw [HBB.out];exact decide_eq_true (fun hh=>by omega)
          subst hb
          clear d3
          go_wp2_with fail
          go_meet
          exact ⟨rfl,rfl⟩
         ·have hb:bb=false:=by rw [HBB.out];exact decide_eq_false (fun hh=>hh ⟨d1,by omega,rfl,d3,by omega,by omega⟩)
          subst hb
          clear d3
          go_wp2_with fail
          go_meet
          exact ⟨rfl,rfl⟩
       ·have hb:bb=true:=by rw [HBB.out];exact decide_eq_true (fun hh=>d3 hh.2.2.2.1)
        have j3:(p != 0)=true:=bne_iff_ne.2 d3
        subst hb
        clear d3
        go_wp2_with fail
        go_meet
        exact ⟨rfl,rfl⟩
 case rest =>
  obtain ⟨rfl,rfl⟩:=hcut
  cases bb with
  | true =>
    go_wp2_with fail
    go_ret
    exact ⟨rfl,B1⟩
  | false =>
    obtain ⟨d1,d2,rfl,rfl,d5,d6⟩:nh≤60∧ng≤40∧ac=false∧p=0∧0≤i∧i < (ng:Int):=Classical.not_not.1 (of_decide_eq_false HBB.out.symm)
    obtain ⟨m,rfl⟩:∃ m:Nat,i=(m:Int):=⟨i.toNat,by omega⟩
    have hm:m < g.length:=by have:=HNg.out;omega
    obtain ⟨bb,off,rfl,HQ⟩:=HG.out (by omega)
    obtain ⟨u0,u1,u2,u3,u4⟩:=HQ.out m hm _ B1
    have HO:=HE.out rfl rfl g[m] (List.getElem_mem hm)
    obtain ⟨⟨x0,x1,x2,x3,x4⟩,hx⟩:∃ y,g[m]=y:=⟨_,rfl⟩
    rw [hx] at u0 u1 u2 u3 u4 HO
    simp only at u0 u1 u2 u3 u4 HO
    have F1:=CF x1
    have F2:=CF x2
    obtain ⟨⟨⟨f0,f1,f2,f3⟩,fb⟩,hf⟩:∃ y,findP h x1=y:=⟨_,rfl⟩
    obtain ⟨⟨⟨s0,s1,s2,s3⟩,sb⟩,hs⟩:∃ y,findP h x2=y:=⟨_,rfl⟩
    rw [hf] at F1 HO
    rw [hs] at F2 HO
    simp only at F1 F2 HO
    have HOK:=Lib.hid HO
    clear hx hf hs HO CF HE HBB hfw HG HQ
    have E4:=SBox.new wc 71 #[.int .i64 x0,.int .i64 x1,.int .i64 x2,.int .i64 x3,.int .i64 x4]
    have B4:=B1.alloc B1.size (.cells #[.int .i64 x0,.int .i64 x1,.int .i64 x2,.int .i64 x3,.int .i64 x4] 71)
    have X4:=X1.alloc (.cells #[.int .i64 x0,.int .i64 x1,.int .i64 x2,.int .i64 x3,.int .i64 x4] 71)
    have y1:=E4.cell 1 _ rfl
    have d7:(m:Int) < (ng:Int):=by omega
    go_upto_region 6 with fail
    generalize wc.alloc (.cells #[.int .i64 x0,.int .i64 x1,.int .i64 x2,.int .i64 x3,.int .i64 x4] 71)=w4 at E4 B4 X4 y1 ⊢
    clear u0 u1 u2 u3 u4 c0 c1 c2 c3 c4 c5 c6
    go_wp2_with fail
    refine (F1 _ B4).mono ?_
    rintro e w5 ⟨rfl,b5⟩
    have L6:=SBox.new w5 73 #[.int .i64 f0,.int .i64 (f1:Int),.int .i64 (f2:Int),.bool f3]
    have b6:=b5.alloc b5.size (.cells #[.int .i64 f0,.int .i64 (f1:Int),.int .i64 (f2:Int),.bool f3] 73)
    have B6:=bel_trans B4 b6
    have E6:=E4.below b6
    have X6:=X4.below b6
    have y2:=E6.cell 2 _ rfl
    clear y1 E4 X4 B4 b5 b6 F1
    go_upto_region 7 with fail
    generalize w5.alloc (.cells #[.int .i64 f0,.int .i64 (f1:Int),.int .i64 (f2:Int),.bool f3] 73)=w6 at L6 B6 E6 X6 y2 ⊢
    go_wp2_with fail
    refine (F2 _ B6).mono ?_
    rintro e w7 ⟨rfl,b7⟩
    have M8:=SBox.new w7 73 #[.int .i64 s0,.int .i64 (s1:Int),.int .i64 (s2:Int),.bool s3]
    have b8:=b7.alloc b7.size (.cells #[.int .i64 s0,.int .i64 (s1:Int),.int .i64 (s2:Int),.bool s3] 73)
    have B8:=bel_trans B6 b8
    have E8:=E6.below b8
    have X8:=X6.below b8
    have L8:=L6.below b8
    clear y2 E6 X6 B6 b7 b8 F2 L6
    go_upto_region 8 with fail
    generalize w7.alloc (.cells #[.int .i64 s0,.int .i64 (s1:Int),.int .i64 (s2:Int),.bool s3] 73)=w8 at M8 B8 E8 X8 L8 ⊢
    have y3:=E8.cell 3 _ rfl
    have y4:=E8.cell 4 _ rfl
    have S9:E14 w (w8.alloc (.cells #[.int .i64 x3,.int .i64 x4] 3)) #[.int .i64 lv,.bool false,.slice oa no oc,.int .i64 0,.int .i64 q,.int .i64 r,.slice (some ⟨bb,off,none⟩) ng rc] (.slice (some ⟨w8.heap.size,0,none⟩) 2 2) [x3,x4]:=⟨B8.alloc B8.size _,X8.alloc _,owns_low (own_intE w8 3 2 [x3,x4] rfl (by omega)) B8.size⟩
    have L9:=L8.alloc (.cells #[.int .i64 x3,.int .i64 x4] 3)
    have M9:=M8.alloc (.cells #[.int .i64 x3,.int .i64 x4] 3)
    go_upto_if 76 with fail
    generalize hw9:w8.alloc (.cells #[.int .i64 x3,.int .i64 x4] 3)=w9 at S9 L9 M9 ⊢
    generalize w8.heap.size=h8 at S9 ⊢
    generalize w7.heap.size=h7 at M9 ⊢
    clear hw9 y3 y4 E8 X8 L8 M8 B8
    go_cut [14] from 77 to 81 (fun x W=>∃ (WL:List Int) (ad:Option Addr) (c:Nat),x=.slice ad WL.length c∧Hid (∀ x∈WL,okW h NL x)∧WL.length≤3∧E14 w W #[.int .i64 lv,.bool false,.slice oa no oc,.int .i64 0,.int .i64 q,.int .i64 r,.slice (some ⟨bb,off,none⟩) ng rc] x WL∧SBox W h7 73 #[.int .i64 s0,.int .i64 (s1:Int),.int .i64 (s2:Int),.bool s3])
    case first =>
     have l2:=L9.cell 2 _ rfl
     cases fb with
     | false =>
       go_wp2_with fail
       go_meet
       exact ⟨[x3,x4],_,_,rfl,fun x hx=>by simp at hx;rcases hx with rfl | rfl;exact HOK.out.1;exact HOK.out.2.1,by simp,S9,M9⟩
     | true =>
       go_wp2_with (at_builtin;refine wpList_append_own_at _ rfl _ _ 23 rfl w.heap.size 3 i0 (.int .i64 0) 1 8 Tryz.underlying23 hi hz0 hz1 hz2 rfl (by decide) (.slice (some ⟨h8,0,none⟩) 2 2) _ _ rfl (S9.row.alloc _) ⟨w9.heap.size,0,none⟩ 1 1 [.int .i64 (f2:Int)] rfl rfl ?a1 ?a2 ?a3 ?a4 ?a5 ?_)
       case a2=>first | rfl | (intro u hu;simp at hu;subst hu;rfl)
       case a3=>simp [maxLen]<;>omega
       case a5=>have:=S9.b.size;simp;omega
       intro v2 w10 hown hg _ hat
       obtain ⟨a2,c2,rfl⟩:=own_shapeE hown
       have S10:=S9.push hown hg
       have M10:=S9.keep hg M9
       clear hown hg hat
       go_wp2_with fail
       go_meet
       exact ⟨[x3,x4]++[(f2:Int)],_,_,rfl,fun x hx=>by simp at hx;rcases hx with rfl | rfl | rfl;exact HOK.out.1;exact HOK.out.2.1;exact HOK.out.2.2.1 (by simp),by simp,S10,M10⟩
    case rest =>
    obtain ⟨W1,aw1,cw1,rfl,HW1,hwl1,S1,M1⟩:=hcut
    obtain ⟨n1,hn1⟩:∃ n,W1.length=n:=⟨_,rfl⟩
    have HN1:=Lib.hid hn1
    rw [hn1] at hwl1 S1 ⊢
    clear hn1 L9 S9 M9
    generalize wc=wP at S1 M1 ⊢
    go_upto_if 82 with fail
    go_cut [14] from 83 to 87 (fun x W=>∃ (WL:List Int) (ad:Option Addr) (c:Nat),x=.slice ad WL.length c∧Hid (∀ x∈WL,okW h NL x)∧WL.length≤4∧E14 w W #[.int .i64 lv,.bool false,.slice oa no oc,.int .i64 0,.int .i64 q,.int .i64 r,.slice (some ⟨bb,off,none⟩) ng rc] x WL)
    case first =>
     have m2:=M1.cell 2 _ rfl
     cases sb with
     | false =>
       go_wp2_with fail
       go_meet
       exact ⟨W1,aw1,cw1,by rw [HN1.out],HW1,by have:=HN1.out;omega,S1⟩
     | true =>
       have hrow:=S1.row
       rw [HN1.out] at hrow
       go_wp2_with (at_builtin;refine wpList_append_own_at _ rfl _ _ 23 rfl w.heap.size 3 i0 (.int .i64 0) 1 8 Tryz.underlying23 hi hz0 hz1 hz2 rfl (by decide) (.slice aw1 n1 cw1) _ _ rfl (hrow.alloc _) ⟨wP.heap.size,0,none⟩ 1 1 [.int .i64 (s2:Int)] rfl rfl ?b1 ?b2 ?b3 ?b4 ?b5 ?_)
       case b2=>first | rfl | (intro u hu;simp at hu;subst hu;rfl)
       case b3=>simp [maxLen]<;>omega
       case b4=>first | omega | (simp;omega)
       case b5=>have:=S1.b.size;simp;omega
       intro v3 w11 hown hg _ hat
       obtain ⟨a3,c3,rfl⟩:=own_shapeE hown
       rw [← HN1.out] at hown
       have S11:=S1.push hown hg
       clear hown hg hat
       go_wp2_with fail
       go_meet
       exact ⟨W1++[(s2:Int)],a3,c3,by rw [List.length_append,HN1.out];rfl,fun x hx=>by
        rcases List.mem_append.1 hx with hx | hx
        ·exact HW1.out x hx
        ·rw [List.mem_singleton.1 hx];exact HOK.out.2.2.2 (by simp),by rw [List.length_append,HN1.out];simp;omega,by have:=S11;rw [HN1.out] at this;exact this⟩
    case rest =>
     obtain ⟨WL,aw,cw,rfl,HW,hwl,S⟩:=hcut
     generalize wc=wQ at S ⊢
     have CN2:=CN.out (by omega) (by omega)
     clear S1 M1 HW1 CN HOK
     have c0:=S.x.cell 0 _ rfl
     have c1:=S.x.cell 1 _ rfl
     have c2:=S.x.cell 2 _ rfl
     have c3:=S.x.cell 3 _ rfl
     have c4:=S.x.cell 4 _ rfl
     have c5:=S.x.cell 5 _ rfl
     have c6:=S.x.cell 6 _ rfl
     have Iw:IsInts wQ (.slice aw WL.length cw) WL:=IsRec.own intV_len (by omega) S.row (by omega)
     obtain ⟨aw',cw',ew,q1,q2,q3,HCw⟩:=IsInts.reads Iw
     obtain ⟨rfl,rfl⟩:aw'=aw∧cw'=cw:=by simpa [eq_comm] using ew
     have BQ:=S.b
     obtain ⟨nw,hnw⟩:∃ n,WL.length=n:=⟨_,rfl⟩
     have HNw:=Lib.hid hnw
     rw [hnw] at q1 q3 hwl ⊢
     clear ew Iw S hnw
     go_wp2_with fail
     refine (CN2 _ BQ).mono ?_
     rintro e w11 ⟨vn,rfl,b11,on⟩
     have In:IsInts w11 vn NL:=IsRec.own intV_len (by omega) on (by omega)
     obtain ⟨an,cn,rfl,n1',n2',n3',HC⟩:=IsInts.reads In
     have B11:=bel_trans BQ b11
     obtain ⟨n,hn⟩:∃ n,NL.length=n:=⟨_,rfl⟩
     have HN:=Lib.hid hn
     rw [hn] at n1' n3' hnl ⊢
     clear c0 c1 c2 c3 c4 c5 c6 on In hn CN2
     go_wp2_with fail
     go_loopw [16] (fun i wr=>∃ k:Nat,k≤nw∧i=.int .i64 (k:Int)∧Below w11.heap.size w11 wr) (fun i _=>nw - (RowKit.intOf i).toNat)
     case atStart=>exact ⟨0,Nat.zero_le _,rfl,Below.refl _ _⟩
     case round =>
      obtain ⟨k,hk,rfl,hB⟩:=hrel
      by_cases hlt:k < nw
      ·have j0:(k:Int) < (nw:Int):=by omega
       have hkW:k < WL.length:=by have:=HNw.out;omega
       obtain ⟨bw,ow,rfl,HQw⟩:=HCw.out (by omega)
       have ck:=HQw.out k hkW wr (bel_trans b11 hB)
       have ok:=HW.out _ (show WL.getD k 0∈WL by rw [getD_at WL 0 k hkW];exact List.getElem_mem hkW)
       have HQk:=Lib.hid (HQw.out k hkW)
       obtain ⟨x,hx⟩:∃ x,WL.getD k 0=x:=⟨_,rfl⟩
       rw [hx] at ck ok HQk
       clear hx
       unfold okW at ok
       rw [HNh.out] at ok
       have HOk:=Lib.hid ok
       clear ok
       obtain ⟨b0,hb0⟩:∃ b:Bool,b=(decide (x < 0) || decide ((nh:Int)≤x)):=⟨_,rfl⟩
       have HB0:=Lib.hid hb0
       clear hb0
       go_upto_region 17 with fail
       go_cut [17] from 97 to 110 (fun y W=>y=.bool b0∧W=wr)
       case first =>
        by_cases f1:x < 0
        ·have hb:b0=true:=by rw [HB0.out,decide_eq_true f1];rfl
         subst hb
         go_wp2_with fail
         go_meet
         exact ⟨rfl,rfl⟩
        ·by_cases f2:(nh:Int)≤x
         ·have hb:b0=true:=by rw [HB0.out,decide_eq_true f2,Bool.or_true]
          subst hb
          go_wp2_with fail
          go_meet
          exact ⟨rfl,rfl⟩
         ·have hb:b0=false:=by rw [HB0.out,decide_eq_false f1,decide_eq_false f2];rfl
          subst hb
          go_wp2_with fail
          go_meet
          exact ⟨rfl,rfl⟩
       case rest =>
        obtain ⟨rfl,hwr⟩:=hcut
        obtain rfl:wr=wc:=hwr.symm
        go_wp2_with fail
        go_loopw [17,18] (fun y i wq=>∃ (m:Nat) (t:Bool),m≤n∧i=.int .i64 (m:Int)∧y=.bool t∧Hid (InE b0 NL x m t)∧Below w11.heap.size w11 wq) (fun _ i _=>n - (RowKit.intOf i).toNat)
        case atStart=>exact ⟨0,b0,Nat.zero_le _,rfl,rfl,⟨fun h=>.inl h,fun h=>by rcases h with h | ⟨j,hj,_⟩;exact h;omega⟩,hB⟩
        case round =>
         obtain ⟨m',t,hm',rfl,rfl,HT,hBq⟩:=hrel
         by_cases hlt2:m' < n
         ·have j1:(m':Int) < (n:Int):=by omega
          have hmN:m' < NL.length:=by have:=HN.out;omega
          obtain ⟨bn,on,rfl,HQn⟩:=HC.out (by omega)
          have cy:=HQn.out m' hmN wr hBq
          have cx:=HQk.out wr (bel_trans b11 hBq)
          obtain ⟨y,hy⟩:∃ y,NL.getD m' 0=y:=⟨_,rfl⟩
          have HYy:=Lib.hid hy
          rw [hy] at cy
          clear hy ck
          cases t with
          | true =>
            have HT2:Hid (InE b0 NL x (m'+1) true):=⟨fun _=>by
             rcases HT.out.1 rfl with h | ⟨j,hj,he⟩
             ·exact .inl h
             ·exact .inr ⟨j,by omega,he⟩,fun _=>rfl⟩
            go_wp2_with fail
            go_quiet (fail)
            go_wp2_with fail
            exact ⟨⟨m'+1,true,by omega,by first | go_num | simp,rfl,HT2,below_drewN hBq _⟩,by simp [RowKit.intOf];omega⟩
          | false =>
            by_cases e:y=x
            ·have e1:(y==x)=true:=beq_iff_eq.2 e
             have HT2:Hid (InE b0 NL x (m'+1) true):=⟨fun _=>.inr ⟨m',by omega,by rw [HYy.out];exact e⟩,fun _=>rfl⟩
             clear e
             go_wp2_with fail
             go_quiet (fail)
             go_wp2_with fail
             exact ⟨⟨m'+1,true,by omega,by first | go_num | simp,rfl,HT2,below_drewN hBq _⟩,by simp [RowKit.intOf];omega⟩
            ·have e1:(y==x)=false:=beq_eq_false_iff_ne.2 e
             have HT2:Hid (InE b0 NL x (m'+1) false):=⟨fun h=>(by cases h),fun h=>by
              rcases h with h | ⟨j,hj,he⟩
              ·exact HT.out.2 (.inl h)
              ·by_cases hjm:j=m'
               ·rw [hjm,HYy.out] at he;exact absurd he e
               ·exact HT.out.2 (.inr ⟨j,by omega,he⟩)⟩
             clear e
             go_wp2_with fail
             go_quiet (fail)
             go_wp2_with fail
             exact ⟨⟨m'+1,false,by omega,by first | go_num | simp,rfl,HT2,below_drewN hBq _⟩,by simp [RowKit.intOf];omega⟩
         ·obtain rfl:m'=n:=by omega
          have jq:¬ (m':Int) < (m':Int):=by omega
          have ht:t=true:=HT.out.2 (by
           rcases HOk.out with h | h | h
           ·exact .inl (by rw [HB0.out,decide_eq_true h];rfl)
           ·exact .inl (by rw [HB0.out,decide_eq_true h,Bool.or_true])
           ·obtain ⟨j,hj,he⟩:=List.getElem_of_mem h
            exact .inr ⟨j,by have:=HN.out;omega,by rw [getD_at NL 0 j hj];exact he⟩)
          subst ht
          go_wp2_with fail
          exact ⟨⟨k+1,by omega,by first | go_num | simp,hBq⟩,by simp [RowKit.intOf];omega⟩
      ·obtain rfl:k=nw:=by omega
       have jq:¬ (k:Int) < (k:Int):=by omega
       go_wp2_with fail
       go_ret
       exact ⟨rfl,bel_trans B11 hB⟩
end Go.Proofs.YtkkenfhlgpjmjaaGreatDoor
