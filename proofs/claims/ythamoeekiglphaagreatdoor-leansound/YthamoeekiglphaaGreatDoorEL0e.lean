/-
  What cartoucheref06.Leaves and Back answer. What cartoucheref01.Num answers, at whatever number. Two rows of numbers that grow side by side, beside a verdict's
-/
import Derived.Test.YthamoeekiglphaaGreatDoorEL0d
import Derived.Below
import Derived.Deep.CutRange
import Derived.Laws.AppendOwnNone
namespace Go.Proofs.YthamoeekiglphaaGreatDoor
set_option maxRecDepth 100000
open Go.RowKit
set_option linter.unusedVariables false
attribute [local go_sem] ba_size
set_option maxHeartbeats 2000000 in
theorem rleaves_any (h:List Ev) (v:Value) (w:World) (hT:IsEvs w v h) :
 Calls Tryz.prog 20 #[v] w fun e w'=>TxRes w (leavesE h) e w':=by
 obtain ⟨i0,hi,hz0,hz1,hz2⟩:=info_parts str_info;obtain ⟨a,cap,rfl,h1,h2,h3,HC⟩:=hT.some_at;obtain ⟨n,hn⟩:∃ n,h.length=n:=⟨_,rfl⟩;have HN:Hid (h.length=n):=hn;rw [hn] at h1 h3 ⊢;clear hT hn
 by_cases hbig:256 < n
 ·rw [leavesE_big h (by have:=HN.out;omega)]
  have j:(256:Int) < (n:Int):=by omega
  go_enter Tryz.func20,Tryz.ntmps20
  go_wp2_with fail
  go_ret2
  exact ⟨_,rfl,Below.refl _ _,World.ownsRow_nil _ _ _ _⟩
 ·have j:¬ (256:Int) < (n:Int):=by omega
  go_enter Tryz.func20,Tryz.ntmps20
  go_wp2_with fail
  go_loopw [4,5] (fun r i wr=>∃ k:Nat,k≤n∧i=.int .i64 k∧Hid (allMay (h.take k))∧Below w.heap.size w wr∧wr.ownsRow w.heap.size 9 1 r k (strV ((h.take k).map bytE))) (fun _ i _=>n - (RowKit.intOf i).toNat)
  case atStart=>exact ⟨0,Nat.zero_le _,rfl,(by intro x hx;simp at hx),Below.refl _ _,World.ownsRow_nil _ _ _ _⟩
  case round =>
   obtain ⟨k,hk,rfl,HA,hbw,hrow⟩:=hrel
   by_cases hlt:k < n
   ·have hk1:k < h.length:=by have:=HN.out;omega
    obtain ⟨bb,off,rfl,hblt,hcell⟩:=HC.out k hk1;obtain ⟨p0,p1,p2,p3⟩:=IsEvs.at hk1 hcell;have q0:=(hbw.cell (p:=⟨bb,off+k*4,none⟩) hblt).trans p0;have q1:=(hbw.cell (p:=⟨bb,off+k*4+1,none⟩) hblt).trans p1;have q2:=(hbw.cell (p:=⟨bb,off+k*4+2,none⟩) hblt).trans p2;have q3:=(hbw.cell (p:=⟨bb,off+k*4+3,none⟩) hblt).trans p3;clear p0 p1 p2 p3 hcell;obtain ⟨⟨x0,x1,x2,x3⟩,hx⟩:∃ x,h[k]=x:=⟨_,rfl⟩;have HX:Hid (h[k]=(x0,x1,x2,x3)):=hx;rw [hx] at q0 q1 q2 q3;simp only at q0 q1 q2 q3;clear hx;have C:=fun W=>rbytes6_any x0 x1 x2 x3 W
    by_cases hm:mayE (x0,x1,x2,x3)
    ·rw [bytesE_ok _ hm] at C
     have HB:Hid (bytE h[k]=bytE (x0,x1,x2,x3)):=by show _=_;rw [HX.out]
     have HA':Hid (allMay (h.take (k+1))):=allMay_next h k hk1 HA.out (by rw [HX.out];exact hm);obtain ⟨s,hs⟩:∃ s,bytE (x0,x1,x2,x3)=s:=⟨_,rfl⟩;rw [hs] at C HB
     have HV:Hid (strV ((h.take (k+1)).map bytE)=strV ((h.take k).map bytE)++[.string ⟨s.toArray⟩]):=by
      show _=_;rw [List.take_succ_eq_append_getElem hk1,List.map_append,List.map_cons,List.map_nil,strV_snoc,HB.out]
     clear hs hm;go_wp2_with fail
     refine (C _).mono ?_;rintro e w1 ⟨rfl,b1⟩;have B1:=bel_trans hbw b1;have hrow1:=owns_below hrow b1;go_wp2_with (at_builtin;refine wpList_append_own _ rfl _ _ 45 rfl w.heap.size 9 i0 (.string ByteArray.empty) 1 16 Tryz.underlying45 hi hz0 hz1 hz2 rfl (by decide) _ _ _ rfl (hrow1.alloc _) ⟨w1.heap.size,0,none⟩ 1 1 [.string ⟨s.toArray⟩] rfl rfl ?d1 ?d2 ?d3 ?d4 ?d5 ?_)
     case d1 =>
      intro j u hj
      match j,hj with
      | 0,hj=>simp at hj;subst hj;simp [Addr.add]
     case d2=>intro u hu;simp at hu;subst hu;rfl
     case d3=>unfold maxLen;omega
     case d4=>omega
     case d5=>have:=B1.size;simp;omega
     intro v' w2 hown2 hgrow2 _;have B2:Below w.heap.size w w2:=(B1.alloc B1.size _).grown hgrow2 (by have:=B1.size;simp;omega) (fun j hj=>(hrow1.lt j hj).1);go_wp2_with fail
     go_roundw
     case rel=>exact ⟨k+1,by omega,by first | go_num | simp,HA',B2,by rw [HV.out,List.map_take];exact hown2⟩
     case measure=>simp [RowKit.intOf];omega
    ·rw [bytesE_no _ hm] at C
     have HE:Hid (leavesE h=([],1)):=leavesE_bad h (by have:=HN.out;omega) k hk1 (by rw [HX.out];exact hm);clear hm;go_wp2_with fail
     refine (C _).mono ?_;rintro e w1 ⟨rfl,b1⟩;go_wp2_with fail
     go_ret2
     refine ⟨_,by rw [HE.out];rfl,bel_trans hbw b1,?_⟩;rw [HE.out];exact World.ownsRow_nil _ _ _ _
   ·obtain rfl:k=n:=by omega
    have HE:Hid (leavesE h=(h.map bytE,0)):=by
     have:=HA.out;rw [List.take_of_length_le (by have:=HN.out;omega)] at this;exact leavesE_ok h (by have:=HN.out;omega) this
    have HF:Hid (h.take k=h):=List.take_of_length_le (by have:=HN.out;omega);go_wp2_with fail
    go_ret2
    refine ⟨_,by rw [HE.out];rfl,hbw,?_⟩;rw [HE.out];show World.ownsRow _ _ _ _ _ (h.map bytE).length _;rw [List.length_map,HN.out];rw [HF.out] at hrow;exact hrow
attribute [local go_sem] ba_size ba_get ba_extract ba_append wrap_byte wrap_u64_byte take_drop_end
theorem low_succ (k v:Nat):Lm.low (k+1) v=UInt8.ofNat (v / 256 ^ k % 256)::Lm.low k v:=by
 rw [Lm.low];congr 1;apply UInt8.toNat_inj.1;simp
theorem low_le (k v:Nat) (h:k≤8):(Lm.low k v).length≤8:=by rw [Lm.low_length];exact h
set_option maxHeartbeats 400000 in
theorem refNum_any (v:Nat) (hv:v < 18446744073709551616) (w:World) :
 Calls Tryz.prog 53 #[.int .u64 v] w fun e w'=>e=.returned (.string ⟨(Lm.numL v).toArray⟩)∧Below w.heap.size w w':=by
 have c1:=conv1;go_enter Tryz.func53,Tryz.ntmps53
 go_wp2
 go_loopw [0,3,4] (fun a s i wr=>∃ k:Nat,k≤8∧a=.int .u64 ((v / 256 ^ k:Nat):Int)∧s=.string ⟨(Lm.low k v).toArray⟩∧i=.int .i64 (k:Int)∧(k=0∨0 < v / 256 ^ (k - 1))∧Below w.heap.size w wr)
  (fun _ _ i _=>8 - (RowKit.intOf i).toNat)
 case atStart=>exact ⟨0,by omega,by simp,rfl,rfl,.inl rfl,Below.refl _ _⟩
 case round =>
  obtain ⟨k,hk8,rfl,rfl,rfl,hk,hbw⟩:=hrel
  by_cases hlt:0 < v / 256 ^ k
  ·have hk8:=Lm.loop_le v k (by omega) hlt
   have hx:((v / 256 ^ k:Nat):Int) < 18446744073709551616:=by have:=Nat.div_le_self v (256 ^ k);omega
   have hD:v / 256 ^ (k+1)=v / 256 ^ k / 256:=by rw [Nat.pow_succ,Nat.div_div_eq_div_mul]
   generalize hxx:v / 256 ^ k=x at *;have HD:Hid _:=hD;clear hD;have HX:Hid _:=hxx;clear hxx;have hll:=low_le k v (by omega);go_wp2
   go_roundw
   case rel=>exact ⟨k+1,by omega,by rw [HD.out];simp,by rw [low_succ,HX.out],by go_num,.inr (by simpa [HX.out] using hlt),hbw.alloc hbw.size _⟩
   case measure=>simp [RowKit.intOf];omega
  ·have hz:v / 256 ^ k=0:=Nat.eq_zero_of_not_pos hlt
   obtain rfl:=Lm.cnt_of_loop v k (by omega) hk hz;rw [hz];clear hz hlt hk;have hll:=low_le (Lm.cnt v) v hk8;go_wp2
   go_ret
   exact ⟨rfl,hbw.alloc hbw.size _⟩
end Go.Proofs.YthamoeekiglphaaGreatDoor
namespace Go.Proofs.YthamoeekiglphaaGreatDoor
set_option maxRecDepth 100000
open Go.RowKit
set_option linter.unusedVariables false
structure WS (w W:World) (cs:Array Value) (lv ev:Value) (L E:List Int):Prop where
 b:Below w.heap.size w W
 x:SBox W w.heap.size 27 cs
 l:W.ownsRow w.heap.size 3 1 lv L.length (recV intV L)
 e:W.ownsRow w.heap.size 3 1 ev E.length (recV intV E)
 ap:∀ g,lv.ownBlock=some g→ev.ownBlock≠some g
theorem WS.swap {w W:World} {cs:Array Value} {lv ev:Value} {L E:List Int} (h:WS w W cs lv ev L E):WS w W cs ev lv E L:=⟨h.b,h.x,h.e,h.l,fun g h1 h2=>h.ap g h2 h1⟩
theorem WS.below {w W W':World} {cs:Array Value} {lv ev:Value} {L E:List Int} (h:WS w W cs lv ev L E) (hb:Below W.heap.size W W'):WS w W' cs lv ev L E :=
 ⟨bel_trans h.b hb,h.x.below hb,owns_below h.l hb,owns_below h.e hb,h.ap⟩
theorem WS.new (w:World) (cs:Array Value):WS w (w.alloc (.cells cs 27)) cs (.slice none 0 0) (.slice none 0 0) [] [] :=
 ⟨(Below.refl _ w).alloc (Nat.le_refl _) _,SBox.new w _ _,World.ownsRow_nil _ _ _ _,World.ownsRow_nil _ _ _ _,fun g h=>by simp [Value.ownBlock] at h⟩
theorem recI14 (l:List Int):recV intV l=l.map (Value.int .i64):=by
 induction l with
 | nil=>rfl
 | cons x t ih=>rw [List.map_cons,← ih];rfl
theorem wp_push14 {ops:Array Oper} {rest:List Oper} {o:Oper} {a:Act} {Q:Exit→Act→World→Prop} (hgd:o.guard=none) (s x:Operand)
 (ho:o.op=.call { callee:=.builtin .append,args:=#[s,x],argTypes:=#[22,22] })
 {w W:World} {cs:Array Value} {lv ev:Value} {L E:List Int} (S:WS w W cs lv ev L E) (hs:a.eval s=lv) (news:List Int) (m c:Nat)
 (hx:a.eval x=.slice (some ⟨W.heap.size,0,none⟩) m c) (hm:news.length=m) (hL:L.length+m≤1000000)
 (h:∀ lv' W',WS w W' cs lv' ev (L++news) E→(∀ b t cs',SBox W b t cs'→t≠3→SBox W' b t cs')→wpList Tryz.prog ops Q rest (a.put o.dst lv') W'):wpList Tryz.prog ops Q (o::rest) a (W.alloc (.cells (news.map (Value.int .i64)).toArray 3)):=by
 obtain ⟨i0,hi,hz0,hz1,hz2⟩:=info_parts int_info;have hA:=S.l.alloc (.cells (news.map (Value.int .i64)).toArray 3);refine wpList_append_own_at _ hgd s x 22 ho w.heap.size 3 i0 (.int .i64 0) 1 8 Tryz.underlying22 hi hz0 hz1 hz2 rfl (by decide) lv _ _ hs hA ⟨W.heap.size,0,none⟩ m c (news.map (Value.int .i64)) hx (by rw [List.length_map,hm,Nat.mul_one]) ?_ ?_ (by unfold maxLen;omega) (by omega) (by rw [World.size_alloc];have:=S.b.size;omega) ?_
 ·intro j u hj
  have ea:(⟨W.heap.size,0,none⟩:Addr).add j=⟨W.heap.size,j,none⟩:=by unfold Addr.add;split<;>simp_all
  rw [ea];exact (SBox.new W 3 (news.map (Value.int .i64)).toArray).cell j u (by simpa using hj)
 ·intro u hu
  obtain ⟨y,_,rfl⟩:=List.mem_map.1 hu;rfl
 ·intro v' w' hown hg _ hat
  have hX:=S.x.alloc (.cells (news.map (Value.int .i64)).toArray 3);have hne:=block_not_row S.x (by decide) S.l;refine h v' w' ?_ (fun b t cs' hB ht=>(hg.block _ (hB.alloc _).lt (block_not_row hB ht S.l)).trans (hB.alloc _));refine ⟨(S.b.alloc S.b.size _).grown hg (by rw [World.size_alloc];have:=S.b.size;omega) (fun j hj=>(S.l.lt j hj).1),(hg.block _ hX.lt hne).trans hX,?_,(S.e.alloc _).kept hg ?_,?_⟩
  ·rw [List.length_append,hm,recV_append,recI14 news]
   exact hown
  ·cases hv:ev.ownBlock with
   | none =>
     rcases S.e.2 with ⟨rfl,_⟩ | ⟨g,cap,cur,rfl,_⟩
     ·exact .inl rfl
     ·simp [Value.ownBlock] at hv
   | some g=>exact .inr (fun e=>S.ap g e.symm hv)
  ·intro g h1 h2
   rcases hat with h3 | h3
   ·exact S.ap g (h3.symm.trans h1) h2
   ·rw [h1] at h3
    have:=(S.e.lt g h2).2;have h4:=Option.some.inj h3;rw [World.size_alloc] at h4;omega
attribute [local go_sem] ba_size
set_option maxHeartbeats 2000000 in
theorem rfind_any (h:List Ev) (v:Value) (w:World) (hT:IsEvs w v h) (t:Int) :
 Calls Tryz.prog 127 #[v,.int .i64 t] w fun e w'=>e=.returned (.tuple #[lifA (findP h t).1,.bool (findP h t).2])∧Below w.heap.size w w':=by
 have C1:=fun W hW=>rfirst_any h v W (hT.below (w':=W) hW) t h.length (Nat.le_refl _)
 have C2:=fun W hW=>rend_any h v W (hT.below (w':=W) hW) t h.length (Nat.le_refl _)
 have R0:=SBox.new w 174 #[.int .i64 0,.int .i64 0,.int .i64 0,.bool false];have B0:=(Below.refl w.heap.size w).alloc (Nat.le_refl _) (.cells #[.int .i64 0,.int .i64 0,.int .i64 0,.bool false] 174);obtain ⟨a,cap,rfl,h1,h2,h3,HC⟩:=hT.reads;obtain ⟨n,hn⟩:∃ n,h.length=n:=⟨_,rfl⟩;have HN:Hid (h.length=n):=hn;rcases hf:fstL h t h.length with _ | f
 ·have HP:findP h t=((0,0,0,false),false):=by unfold findP findL;rw [hf]
  rw [HP];rw [hf] at C1;rw [hn] at h1 h3 C1 C2 ⊢;simp only [oI] at C1;clear hf HP hn hT;go_enter Tryz.func127,Tryz.ntmps127
  go_wp2_with fail
  refine (C1 _ B0).mono ?_;rintro e w1 ⟨rfl,b1⟩;have R1:=R0.below b1;have B1:=bel_trans B0 b1;have r0:=R1.cell 0 _ rfl;have r1:=R1.cell 1 _ rfl;have r2:=R1.cell 2 _ rfl;have r3:=R1.cell 3 _ rfl;have g0:=R1.frozen 0;have g1:=R1.frozen 1;have g2:=R1.frozen 2;have g3:=R1.frozen 3;go_wp2_with fail
  generalize hW:World.setCell _ _ _=W;have RW:SBox W w.heap.size 174 #[.int .i64 0,.int .i64 0,.int .i64 0,.bool false]:=by rw [← hW];exact R1.put4 _ _ _ _
  have BZ:Below w.heap.size w W:=by rw [← hW];exact bel_put4 B1 (Nat.le_refl _) _ _ _ _
  exact bodyPost_ret (v:=.tuple #[lifA (0,0,0,false),.bool false]) (results_row_tmp Tryz.results127 _ _ w.heap.size 174 _ (0,0) _ rfl RW Tryz.underlying174 rfl size_lif) rfl ⟨rfl,BZ⟩
 ·rcases he:endL h t h.length with _ | g
  ·have HP:findP h t=((t,f,h.length,false),true):=by unfold findP findL;rw [hf];simp only;rw [he]
   rw [HP];rw [hf] at C1;rw [he] at C2;rw [hn] at h1 h3 C1 C2 ⊢;simp only [oI] at C1 C2;have jf:¬ (f:Int) < 0:=by omega
   clear hf he HP hn hT;go_enter Tryz.func127,Tryz.ntmps127
   go_wp2_with fail
   refine (C1 _ B0).mono ?_;rintro e w1 ⟨rfl,b1⟩;have R1:=R0.below b1;have B1:=bel_trans B0 b1;go_wp2_with fail
   refine (C2 _ B1).mono ?_;rintro e w2 ⟨rfl,b2⟩;have R2:=R1.below b2;have B2:=bel_trans B1 b2;have r0:=R2.cell 0 _ rfl;have r1:=R2.cell 1 _ rfl;have r2:=R2.cell 2 _ rfl;have r3:=R2.cell 3 _ rfl;have g0:=R2.frozen 0;have g1:=R2.frozen 1;have g2:=R2.frozen 2;have g3:=R2.frozen 3;go_wp2_with fail
   generalize hW:World.setCell _ _ _=W;have RW:SBox W w.heap.size 174 #[.int .i64 t,.int .i64 (f:Int),.int .i64 (n:Int),.bool false]:=by rw [← hW];exact R2.put4 _ _ _ _
   have BZ:Below w.heap.size w W:=by rw [← hW];exact bel_put4 B2 (Nat.le_refl _) _ _ _ _
   exact bodyPost_ret (v:=.tuple #[lifA (t,f,n,false),.bool true]) (results_row_tmp Tryz.results127 _ _ w.heap.size 174 _ (0,0) _ rfl RW Tryz.underlying174 rfl size_lif) rfl ⟨rfl,BZ⟩
  ·have hgl:=((fi_some _ _ _).1 he).1
   obtain ⟨bb,off,rfl,HQ⟩:=HC.out (by omega);have HP:findP h t=((t,f,g,decide ((ev h g).1=4)),true):=by unfold findP findL;rw [hf];simp only;rw [he]
   rw [HP];rw [hf] at C1;rw [he] at C2;rw [hn] at h1 h3 C1 C2 ⊢;simp only [oI] at C1 C2;have jf:¬ (f:Int) < 0:=by omega
   have jg:¬ (g:Int) < 0:=by omega
   have jl:g < n:=by have:=HN.out;omega
   obtain ⟨x0,hx⟩:∃ x,(ev h g).1=x:=⟨_,rfl⟩;have HX:Hid ((ev h g).1=x0):=hx;have HG:Hid (g < h.length):=hgl;rw [hx]
   by_cases d:x0=4
   ·have e4:(x0==4)=true:=by rw [d];rfl
    rw [decide_eq_true d];clear hf he HP hn hT hgl hx;go_enter Tryz.func127,Tryz.ntmps127
    go_wp2_with fail
    refine (C1 _ B0).mono ?_;rintro e w1 ⟨rfl,b1⟩;have R1:=R0.below b1;have B1:=bel_trans B0 b1;go_wp2_with fail
    refine (C2 _ B1).mono ?_;rintro e w2 ⟨rfl,b2⟩;have R2:=R1.below b2;have B2:=bel_trans B1 b2;have cc:=(HQ.out g HG.out _ B2).1;rw [HX.out] at cc;have r0:=R2.cell 0 _ rfl;have r1:=R2.cell 1 _ rfl;have r2:=R2.cell 2 _ rfl;have r3:=R2.cell 3 _ rfl;have g0:=R2.frozen 0;have g1:=R2.frozen 1;have g2:=R2.frozen 2;have g3:=R2.frozen 3;go_wp2_with fail
    generalize hW:World.setCell _ _ _=W;have RW:SBox W w.heap.size 174 #[.int .i64 t,.int .i64 (f:Int),.int .i64 (g:Int),.bool true]:=by rw [← hW];exact R2.put4 _ _ _ _
    have BZ:Below w.heap.size w W:=by rw [← hW];exact bel_put4 B2 (Nat.le_refl _) _ _ _ _
    exact bodyPost_ret (v:=.tuple #[lifA (t,f,g,true),.bool true]) (results_row_tmp Tryz.results127 _ _ w.heap.size 174 _ (0,0) _ rfl RW Tryz.underlying174 rfl size_lif) rfl ⟨rfl,BZ⟩
   ·have e4:(x0==4)=false:=beq_eq_false_iff_ne.2 d
    rw [decide_eq_false d];clear hf he HP hn hT hgl hx;go_enter Tryz.func127,Tryz.ntmps127
    go_wp2_with fail
    refine (C1 _ B0).mono ?_;rintro e w1 ⟨rfl,b1⟩;have R1:=R0.below b1;have B1:=bel_trans B0 b1;go_wp2_with fail
    refine (C2 _ B1).mono ?_;rintro e w2 ⟨rfl,b2⟩;have R2:=R1.below b2;have B2:=bel_trans B1 b2;have cc:=(HQ.out g HG.out _ B2).1;rw [HX.out] at cc;have r0:=R2.cell 0 _ rfl;have r1:=R2.cell 1 _ rfl;have r2:=R2.cell 2 _ rfl;have r3:=R2.cell 3 _ rfl;have g0:=R2.frozen 0;have g1:=R2.frozen 1;have g2:=R2.frozen 2;have g3:=R2.frozen 3;go_wp2_with fail
    generalize hW:World.setCell _ _ _=W;have RW:SBox W w.heap.size 174 #[.int .i64 t,.int .i64 (f:Int),.int .i64 (g:Int),.bool false]:=by rw [← hW];exact R2.put4 _ _ _ _
    have BZ:Below w.heap.size w W:=by rw [← hW];exact bel_put4 B2 (Nat.le_refl _) _ _ _ _
    exact bodyPost_ret (v:=.tuple #[lifA (t,f,g,false),.bool true]) (results_row_tmp Tryz.results127 _ _ w.heap.size 174 _ (0,0) _ rfl RW Tryz.underlying174 rfl size_lif) rfl ⟨rfl,BZ⟩
end Go.Proofs.YthamoeekiglphaaGreatDoor
namespace Go.Proofs.YthamoeekiglphaaGreatDoor
set_option maxRecDepth 100000
open Go.RowKit
set_option linter.unusedVariables false
section
variable {P:Program} {md:Region.Mode} {ops:Array Oper} {Q:Exit→Act→World→Prop}
def takeB (md:Region.Mode) (ops:Array Oper) (listed:Array Bool) (d i:Nat) (o:Oper) (a:Act):Bool :=
 Region.noSelect ops&&(Region.free md ops listed i&&((Region.ready md ops listed).contains i&&(Region.waitsFor md ops d i&&(!listed.getD d false&&Region.wanted o (yielded ops a.tmps)))))
theorem takeD {C:World→Prop} {d:Nat} (i:Nat) (v:Value) {oi:Oper} {f:Nat} {listed:Array Bool} {a:Act} {w:World} (hi:ops[i]?=some oi) (hb:takeB md ops listed d i oi a=true)
 (hQ:∀ c a w,Q (.panic c) (a.put oi.dst v) w→Q (.panic c) a w) (hy:∀ V,C V→(execOp a.eval oi).run P V=.ok (.value v) V)
 (h:wpAnyC C d P md ops Q f (listed.setIfInBounds i true) (a.put oi.dst v) w):wpAnyC C d P md ops Q (f+1) listed a w:=by
 unfold takeB at hb;simp only [Bool.and_eq_true,Bool.not_eq_true'] at hb;obtain ⟨h1,h2,h3,h4,h5,h6⟩:=hb;exact takeC hi h1 h2 h3 h4 h5 hQ (.inl ⟨h6,hy⟩) h
end
end Go.Proofs.YthamoeekiglphaaGreatDoor
namespace Go.Proofs.YthamoeekiglphaaGreatDoor
set_option maxRecDepth 100000
open Go.RowKit
set_option linter.unusedVariables false
def farW (w U:World) (d:Decidable (Below w.heap.size w U):=Classical.propDecidable _):World:=@ite World (Below w.heap.size w U) d U w
theorem farW_eq {w U:World} (h:Below w.heap.size w U):farW w U=U:=by unfold farW;rw [if_pos h]
theorem farW_bel (w U:World):Below w.heap.size w (farW w U):=by
 unfold farW
 split
 ·assumption
 ·exact Below.refl _ _
theorem farW_cell (w U:World) (a:Addr) (h:(w.cell? a).isSome=true):(farW w U).cell? a=w.cell? a:=by
 obtain ⟨v,hv⟩:=Option.isSome_iff_exists.1 h;exact (farW_bel w U).cell (World.block_lt_of_cell? w a hv)
section
variable {P:Program}
theorem region_far {id:Nat} {Q:Exit→Act→World→Prop} {a:Act} {w:World} {l:List Oper} (hm:P.follows .mixedOrders=true) (hB:Region.lexB .any l.toArray=true)
 (h:wpQuiet P l.toArray (fun w'=>∃ U,w'=farW w U) (fun a'=>∀ w',(∃ U,w'=farW w U)→Q .normal a' w') l a):(Code.region id l.toArray true).wp P Q a w :=
 wp_region_quiet (C:=fun w'=>∃ U,w'=farW w U) hm hB ⟨w.drew,(farW_eq (Below.refl _ _).drew).symm⟩ (by simpa using h)
theorem calls_far {f:FuncId} {args:Array Value} {w U:World} {v:Value} (h:Calls P f args (farW w U) fun e w'=>e=.returned v∧Below (farW w U).heap.size (farW w U) w'):Calls P f args (farW w U) fun e w''=>e=.returned v∧∃ U',w''=farW w U' :=
 h.mono fun _ w' ⟨he,hb⟩=>⟨he,w',(farW_eq (bel_trans (farW_bel w U) hb)).symm⟩
end
end Go.Proofs.YthamoeekiglphaaGreatDoor
namespace Go.Proofs.YthamoeekiglphaaGreatDoor
set_option maxRecDepth 100000
open Go.RowKit
set_option linter.unusedVariables false
attribute [local go_sem] ba_size
theorem rplace14_any (i:Int) (w:World):Calls Tryz.prog 79 #[.int .i64 i] w fun e w'=>e=.returned (.bool (decide (plM i)))∧w'=w:=by
 by_cases h1:0≤i
 ·by_cases h2:i≤255
  ·rw [decide_eq_true (show plM i from ⟨h1,h2⟩)]
   go_enter Tryz.func79,Tryz.ntmps79
   go_wp2_with fail
   go_ret
   exact ⟨rfl,rfl⟩
  ·rw [decide_eq_false (fun hh:plM i=>h2 hh.2)]
   go_enter Tryz.func79,Tryz.ntmps79
   go_wp2_with fail
   go_ret
   exact ⟨rfl,rfl⟩
 ·rw [decide_eq_false (fun hh:plM i=>h1 hh.1)]
  go_enter Tryz.func79,Tryz.ntmps79
  go_wp2_with fail
  go_ret
  exact ⟨rfl,rfl⟩
theorem rtxn14_any (i:Int) (w:World):Calls Tryz.prog 80 #[.int .i64 i] w fun e w'=>e=.returned (.bool (decide (txM i)))∧w'=w:=by
 by_cases h1:1≤i
 ·by_cases h2:i≤32
  ·rw [decide_eq_true (show txM i from ⟨h1,h2⟩)]
   go_enter Tryz.func80,Tryz.ntmps80
   go_wp2_with fail
   go_ret
   exact ⟨rfl,rfl⟩
  ·rw [decide_eq_false (fun hh:txM i=>h2 hh.2)]
   go_enter Tryz.func80,Tryz.ntmps80
   go_wp2_with fail
   go_ret
   exact ⟨rfl,rfl⟩
 ·rw [decide_eq_false (fun hh:txM i=>h1 hh.1)]
  go_enter Tryz.func80,Tryz.ntmps80
  go_wp2_with fail
  go_ret
  exact ⟨rfl,rfl⟩
theorem rplace14_yes (i:Int) (h:plM i) (w:World):Calls Tryz.prog 79 #[.int .i64 i] w fun e w'=>e=.returned (.bool true)∧w'=w:=by
 have:=rplace14_any i w;rw [decide_eq_true h] at this;exact this
theorem rplace14_no (i:Int) (h:¬ plM i) (w:World):Calls Tryz.prog 79 #[.int .i64 i] w fun e w'=>e=.returned (.bool false)∧w'=w:=by
 have:=rplace14_any i w;rw [decide_eq_false h] at this;exact this
theorem rtxn14_yes (i:Int) (h:txM i) (w:World):Calls Tryz.prog 80 #[.int .i64 i] w fun e w'=>e=.returned (.bool true)∧w'=w:=by
 have:=rtxn14_any i w;rw [decide_eq_true h] at this;exact this
theorem rtxn14_no (i:Int) (h:¬ txM i) (w:World):Calls Tryz.prog 80 #[.int .i64 i] w fun e w'=>e=.returned (.bool false)∧w'=w:=by
 have:=rtxn14_any i w;rw [decide_eq_false h] at this;exact this
set_option maxHeartbeats 8000000 in
theorem rmay14_f1 (a p d:List UInt8) (sq ct lv k0 k1 k2:Int) (ac:Bool) (o:List Int) (g:List Ed) (q:List Pf) (oa ra pa:Option Addr) (no oc ng rc nq pc:Nat) (w:World) (hF:(a.length < 1∨16 < a.length∨sq < 1∨1048576 < sq∨(p.length≠0∧p.length≠32)∨d.length≠32∨ct < 0∨256 < ct)) :
 Calls Tryz.prog 36 #[.agg #[.string ⟨a.toArray⟩,.int .i64 sq,.string ⟨p.toArray⟩,.string ⟨d.toArray⟩,.int .i64 ct,.int .i64 lv,.bool ac,.slice oa no oc,.int .i64 k0,.int .i64 k1,.int .i64 k2,.slice ra ng rc,.slice pa nq pc]] w fun e w'=>e=.returned (.bool false)∧Below w.heap.size w w':=by
 have Hb1:Hid (true=decide (a.length < 1∨16 < a.length∨sq < 1∨1048576 < sq∨(p.length≠0∧p.length≠32)∨d.length≠32∨ct < 0∨256 < ct)):=(decide_eq_true hF).symm;have X1:=SBox.new w 30 #[.string ⟨a.toArray⟩,.int .i64 sq,.string ⟨p.toArray⟩,.string ⟨d.toArray⟩,.int .i64 ct,.int .i64 lv,.bool ac,.slice oa no oc,.int .i64 k0,.int .i64 k1,.int .i64 k2,.slice ra ng rc,.slice pa nq pc];have B1:=(Below.refl w.heap.size w).alloc (Nat.le_refl _) (.cells #[.string ⟨a.toArray⟩,.int .i64 sq,.string ⟨p.toArray⟩,.string ⟨d.toArray⟩,.int .i64 ct,.int .i64 lv,.bool ac,.slice oa no oc,.int .i64 k0,.int .i64 k1,.int .i64 k2,.slice ra ng rc,.slice pa nq pc] 30);have X2:=SBox.new (w.alloc (.cells #[.string ⟨a.toArray⟩,.int .i64 sq,.string ⟨p.toArray⟩,.string ⟨d.toArray⟩,.int .i64 ct,.int .i64 lv,.bool ac,.slice oa no oc,.int .i64 k0,.int .i64 k1,.int .i64 k2,.slice ra ng rc,.slice pa nq pc] 30)) 27 #[.int .i64 lv,.bool ac,.slice oa no oc,.int .i64 k0,.int .i64 k1,.int .i64 k2,.slice ra ng rc]
 have Y1:=X1.alloc (.cells #[.int .i64 lv,.bool ac,.slice oa no oc,.int .i64 k0,.int .i64 k1,.int .i64 k2,.slice ra ng rc] 27);have B2:=B1.alloc B1.size (.cells #[.int .i64 lv,.bool ac,.slice oa no oc,.int .i64 k0,.int .i64 k1,.int .i64 k2,.slice ra ng rc] 27);rw [show (w.alloc (.cells #[.string ⟨a.toArray⟩,.int .i64 sq,.string ⟨p.toArray⟩,.string ⟨d.toArray⟩,.int .i64 ct,.int .i64 lv,.bool ac,.slice oa no oc,.int .i64 k0,.int .i64 k1,.int .i64 k2,.slice ra ng rc,.slice pa nq pc] 30)).heap.size=w.heap.size+1 by simp] at X2;have g5:=X1.cell 5 _ rfl;have g6:=X1.cell 6 _ rfl;have g7:=X1.cell 7 _ rfl;have g8:=X1.cell 8 _ rfl;have g9:=X1.cell 9 _ rfl;have g10:=X1.cell 10 _ rfl;have g11:=X1.cell 11 _ rfl
 have f0:=Y1.cell 0 _ rfl;have f1:=Y1.cell 1 _ rfl;have f2:=Y1.cell 2 _ rfl;have f3:=Y1.cell 3 _ rfl;have f4:=Y1.cell 4 _ rfl;have f12:=Y1.cell 12 _ rfl;have u0:=X2.cell 0 _ rfl;have u1:=X2.cell 1 _ rfl;have u2:=X2.cell 2 _ rfl;have u3:=X2.cell 3 _ rfl;have u4:=X2.cell 4 _ rfl;have u5:=X2.cell 5 _ rfl;have u6:=X2.cell 6 _ rfl;go_enter Tryz.func36,Tryz.ntmps36
 go_upto_region 2 with fail
 go_cut [64] from 17 to 64 (fun s W=>s=.bool true∧W=((w.alloc (.cells #[.string ⟨a.toArray⟩,.int .i64 sq,.string ⟨p.toArray⟩,.string ⟨d.toArray⟩,.int .i64 ct,.int .i64 lv,.bool ac,.slice oa no oc,.int .i64 k0,.int .i64 k1,.int .i64 k2,.slice ra ng rc,.slice pa nq pc] 30)).alloc (.cells #[.int .i64 lv,.bool ac,.slice oa no oc,.int .i64 k0,.int .i64 k1,.int .i64 k2,.slice ra ng rc] 27)))
 case first =>
  clear Hb1
  by_cases c0:a.length < 1
  ·skip
   have q1:(a.length:Int) < 1:=by omega
   go_wp2_with fail
   go_meet
   exact ⟨rfl,rfl⟩
  ·skip
   have q1:¬ (a.length:Int) < 1:=by omega
   by_cases c1:16 < a.length
   ·skip
    have q2:(16:Int) < (a.length:Int):=by omega
    go_wp2_with fail
    go_meet
    exact ⟨rfl,rfl⟩
   ·skip
    have q2:¬ (16:Int) < (a.length:Int):=by omega
    by_cases c2:sq < 1
    ·skip
     go_wp2_with fail
     go_meet
     exact ⟨rfl,rfl⟩
    ·skip
     by_cases c3:1048576 < sq
     ·skip
      go_wp2_with fail
      go_meet
      exact ⟨rfl,rfl⟩
     ·skip
      by_cases c4:p.length=0
      ·have q5:((p.length:Int) != 0)=false:=by rw [c4];rfl
       by_cases c6:d.length≠32
       ·skip
        have q7:((d.length:Int) != 32)=true:=bne_iff_ne.2 (by omega);go_wp2_with fail
        go_meet
        exact ⟨rfl,rfl⟩
       ·skip
        have q7:((d.length:Int) != 32)=false:=by rw [show d.length=32 by omega];rfl
        by_cases c7:ct < 0
        ·skip
         go_wp2_with fail
         go_meet
         exact ⟨rfl,rfl⟩
        ·skip
         by_cases c8:256 < ct
         ·skip
          go_wp2_with fail
          go_meet
          exact ⟨rfl,rfl⟩
         ·skip
          exfalso;omega
      ·have q5:((p.length:Int) != 0)=true:=bne_iff_ne.2 (by omega)
       by_cases c5:p.length=32
       ·have q6:((p.length:Int) != 32)=false:=by rw [c5];rfl
        by_cases c6:d.length≠32
        ·skip
         have q7:((d.length:Int) != 32)=true:=bne_iff_ne.2 (by omega);go_wp2_with fail
         go_meet
         exact ⟨rfl,rfl⟩
        ·skip
         have q7:((d.length:Int) != 32)=false:=by rw [show d.length=32 by omega];rfl
         by_cases c7:ct < 0
         ·skip
          go_wp2_with fail
          go_meet
          exact ⟨rfl,rfl⟩
         ·skip
          by_cases c8:256 < ct
          ·skip
           go_wp2_with fail
           go_meet
           exact ⟨rfl,rfl⟩
          ·skip
           exfalso;omega
       ·have q6:((p.length:Int) != 32)=true:=bne_iff_ne.2 (by omega)
        go_wp2_with fail
        go_meet
        exact ⟨rfl,rfl⟩
 case rest =>
  obtain ⟨rfl,rfl⟩:=hcut;go_wp2_with fail
  go_ret
  exact ⟨rfl,B2⟩
set_option maxHeartbeats 8000000 in
theorem rmay14_f2 (a p d:List UInt8) (sq ct lv k0 k1 k2:Int) (ac:Bool) (o:List Int) (g:List Ed) (q:List Pf) (oa ra pa:Option Addr) (no oc ng rc nq pc:Nat) (w:World) (e1:1≤a.length∧a.length≤16) (e2:1≤sq∧sq≤1048576) (e3:p.length=0∨p.length=32) (e4:d.length=32) (e5:0≤ct∧ct≤256) (hF:(lv < 1∨2 < lv∨32 < no∨k0 < 0∨4 < k0∨¬ (plM k1∧plM k2)∨128 < ng∨256 < nq)) :
 Calls Tryz.prog 36 #[.agg #[.string ⟨a.toArray⟩,.int .i64 sq,.string ⟨p.toArray⟩,.string ⟨d.toArray⟩,.int .i64 ct,.int .i64 lv,.bool ac,.slice oa no oc,.int .i64 k0,.int .i64 k1,.int .i64 k2,.slice ra ng rc,.slice pa nq pc]] w fun e w'=>e=.returned (.bool false)∧Below w.heap.size w w':=by
 have q1:¬ (a.length:Int) < 1:=by omega
 have q2:¬ (16:Int) < (a.length:Int):=by omega
 have q3:¬ sq < 1:=by omega
 have q4:¬ 1048576 < sq:=by omega
 have q7:((d.length:Int) != 32)=false:=by rw [e4];rfl
 have q8:¬ ct < 0:=by omega
 have q9:¬ 256 < ct:=by omega
 have X1:=SBox.new w 30 #[.string ⟨a.toArray⟩,.int .i64 sq,.string ⟨p.toArray⟩,.string ⟨d.toArray⟩,.int .i64 ct,.int .i64 lv,.bool ac,.slice oa no oc,.int .i64 k0,.int .i64 k1,.int .i64 k2,.slice ra ng rc,.slice pa nq pc];have B1:=(Below.refl w.heap.size w).alloc (Nat.le_refl _) (.cells #[.string ⟨a.toArray⟩,.int .i64 sq,.string ⟨p.toArray⟩,.string ⟨d.toArray⟩,.int .i64 ct,.int .i64 lv,.bool ac,.slice oa no oc,.int .i64 k0,.int .i64 k1,.int .i64 k2,.slice ra ng rc,.slice pa nq pc] 30);have X2:=SBox.new (w.alloc (.cells #[.string ⟨a.toArray⟩,.int .i64 sq,.string ⟨p.toArray⟩,.string ⟨d.toArray⟩,.int .i64 ct,.int .i64 lv,.bool ac,.slice oa no oc,.int .i64 k0,.int .i64 k1,.int .i64 k2,.slice ra ng rc,.slice pa nq pc] 30)) 27 #[.int .i64 lv,.bool ac,.slice oa no oc,.int .i64 k0,.int .i64 k1,.int .i64 k2,.slice ra ng rc]
 have Y1:=X1.alloc (.cells #[.int .i64 lv,.bool ac,.slice oa no oc,.int .i64 k0,.int .i64 k1,.int .i64 k2,.slice ra ng rc] 27);have B2:=B1.alloc B1.size (.cells #[.int .i64 lv,.bool ac,.slice oa no oc,.int .i64 k0,.int .i64 k1,.int .i64 k2,.slice ra ng rc] 27);rw [show (w.alloc (.cells #[.string ⟨a.toArray⟩,.int .i64 sq,.string ⟨p.toArray⟩,.string ⟨d.toArray⟩,.int .i64 ct,.int .i64 lv,.bool ac,.slice oa no oc,.int .i64 k0,.int .i64 k1,.int .i64 k2,.slice ra ng rc,.slice pa nq pc] 30)).heap.size=w.heap.size+1 by simp] at X2;have g5:=X1.cell 5 _ rfl;have g6:=X1.cell 6 _ rfl;have g7:=X1.cell 7 _ rfl;have g8:=X1.cell 8 _ rfl;have g9:=X1.cell 9 _ rfl;have g10:=X1.cell 10 _ rfl;have g11:=X1.cell 11 _ rfl
 have f0:=Y1.cell 0 _ rfl;have f1:=Y1.cell 1 _ rfl;have f2:=Y1.cell 2 _ rfl;have f3:=Y1.cell 3 _ rfl;have f4:=Y1.cell 4 _ rfl;have f12:=Y1.cell 12 _ rfl;have u0:=X2.cell 0 _ rfl;have u1:=X2.cell 1 _ rfl;have u2:=X2.cell 2 _ rfl;have u3:=X2.cell 3 _ rfl;have u4:=X2.cell 4 _ rfl;have u5:=X2.cell 5 _ rfl;have u6:=X2.cell 6 _ rfl;go_enter Tryz.func36,Tryz.ntmps36
 go_upto_region 2 with fail
 go_cut [64] from 17 to 64 (fun s W=>s=.bool false∧W=((w.alloc (.cells #[.string ⟨a.toArray⟩,.int .i64 sq,.string ⟨p.toArray⟩,.string ⟨d.toArray⟩,.int .i64 ct,.int .i64 lv,.bool ac,.slice oa no oc,.int .i64 k0,.int .i64 k1,.int .i64 k2,.slice ra ng rc,.slice pa nq pc] 30)).alloc (.cells #[.int .i64 lv,.bool ac,.slice oa no oc,.int .i64 k0,.int .i64 k1,.int .i64 k2,.slice ra ng rc] 27)))
 case first =>
  rcases e3 with e3 | e3
  ·have q5:((p.length:Int) != 0)=false:=by rw [e3];rfl
   go_wp2_with fail
   go_meet
   exact ⟨rfl,rfl⟩
  ·have q5:((p.length:Int) != 0)=true:=bne_iff_ne.2 (by omega)
   have q6:((p.length:Int) != 32)=false:=by rw [e3];rfl
   go_wp2_with fail
   go_meet
   exact ⟨rfl,rfl⟩
 case rest =>
  obtain ⟨rfl,rfl⟩:=hcut;clear X1 B1;clear g5 g6 g7 g8 g9 g10 g11;clear f0 f1 f2 f3 f4 f12 u0 u1 u2 u3 u4 u5 u6;generalize ((w.alloc (.cells #[.string ⟨a.toArray⟩,.int .i64 sq,.string ⟨p.toArray⟩,.string ⟨d.toArray⟩,.int .i64 ct,.int .i64 lv,.bool ac,.slice oa no oc,.int .i64 k0,.int .i64 k1,.int .i64 k2,.slice ra ng rc,.slice pa nq pc] 30)).alloc (.cells #[.int .i64 lv,.bool ac,.slice oa no oc,.int .i64 k0,.int .i64 k1,.int .i64 k2,.slice ra ng rc] 27))=V at Y1 X2 B2 ⊢;have f0:=Y1.cell 0 _ rfl;have f1:=Y1.cell 1 _ rfl;have f2:=Y1.cell 2 _ rfl;have f3:=Y1.cell 3 _ rfl;have f4:=Y1.cell 4 _ rfl;have f12:=Y1.cell 12 _ rfl;have u0:=X2.cell 0 _ rfl;have u1:=X2.cell 1 _ rfl;have u2:=X2.cell 2 _ rfl
  have u3:=X2.cell 3 _ rfl;have u4:=X2.cell 4 _ rfl;have u5:=X2.cell 5 _ rfl;have u6:=X2.cell 6 _ rfl;obtain ⟨bb,HBB⟩:∃ bb:Bool,Hid (bb=true↔(plM k1∧plM k2)):=⟨decide (plM k1∧plM k2),decide_eq_true_iff⟩;go_upto_region 4 with fail
  go_cut [4] from 65 to 74 (fun s W=>s=.bool bb∧V=W)
  case first =>
   by_cases h1:plM k1
   ·by_cases h2:plM k2
    ·have hb:bb=true:=HBB.out.2 ⟨h1,h2⟩
     subst hb;go_wp2_with fail
     refine (rplace14_yes k1 h1 _).mono ?_;rintro e w1 ⟨rfl,rfl⟩;go_wp2_with fail
     refine (rplace14_yes k2 h2 _).mono ?_;rintro e w1 ⟨rfl,rfl⟩;go_wp2_with fail
     go_meet
     exact ⟨rfl,rfl⟩
    ·have hb:bb=false:=by
      cases bb with
      | false=>rfl
      | true=>exact absurd (HBB.out.1 rfl).2 h2
     subst hb;go_wp2_with fail
     refine (rplace14_yes k1 h1 _).mono ?_;rintro e w1 ⟨rfl,rfl⟩;go_wp2_with fail
     refine (rplace14_no k2 h2 _).mono ?_;rintro e w1 ⟨rfl,rfl⟩;go_wp2_with fail
     go_meet
     exact ⟨rfl,rfl⟩
   ·have hb:bb=false:=by
     cases bb with
     | false=>rfl
     | true=>exact absurd (HBB.out.1 rfl).1 h1
    subst hb;go_wp2_with fail
    refine (rplace14_no k1 h1 _).mono ?_;rintro e w1 ⟨rfl,rfl⟩;go_wp2_with fail
    go_meet
    exact ⟨rfl,rfl⟩
  case rest =>
   obtain ⟨rfl,rfl⟩:=hcut;go_upto_region 5 with fail
   go_cut [116] from 75 to 116 (fun s W=>s=.bool true∧V=W)
   case first =>
    by_cases c0:lv < 1
    ·skip
     go_wp2_with fail
     go_meet
     exact ⟨rfl,rfl⟩
    ·skip
     by_cases c1:2 < lv
     ·skip
      go_wp2_with fail
      go_meet
      exact ⟨rfl,rfl⟩
     ·skip
      by_cases c2:32 < no
      ·skip
       have q3:(32:Int) < (no:Int):=by omega
       go_wp2_with fail
       go_meet
       exact ⟨rfl,rfl⟩
      ·skip
       have q3:¬ (32:Int) < (no:Int):=by omega
       by_cases c3:k0 < 0
       ·skip
        go_wp2_with fail
        go_meet
        exact ⟨rfl,rfl⟩
       ·skip
        by_cases c4:4 < k0
        ·skip
         go_wp2_with fail
         go_meet
         exact ⟨rfl,rfl⟩
        ·skip
         cases bb with
         | false =>
           go_wp2_with fail
           go_meet
           exact ⟨rfl,rfl⟩
         | true =>
           have HPP:=HBB.out.1 rfl
           by_cases c6:128 < ng
           ·skip
            have q4:(128:Int) < (ng:Int):=by omega
            go_wp2_with fail
            go_meet
            exact ⟨rfl,rfl⟩
           ·skip
            have q4:¬ (128:Int) < (ng:Int):=by omega
            by_cases c7:256 < nq
            ·skip
             have q5:(256:Int) < (nq:Int):=by omega
             go_wp2_with fail
             go_meet
             exact ⟨rfl,rfl⟩
            ·skip
             have q5:¬ (256:Int) < (nq:Int):=by omega
             exfalso;unfold plM at hF HPP;omega
   case rest =>
    obtain ⟨rfl,rfl⟩:=hcut;go_wp2_with fail
    go_ret
    exact ⟨rfl,B2⟩
theorem grown_set14 (w:World) (b k:Nat) (u:Value):w.grownBy (w.setCell ⟨b,k,none⟩ u) (some b) :=
 ⟨rfl,rfl,rfl,by simp [World.setCell],fun i hi hne=>Below.heap_setCell w ⟨b,k,none⟩ u i (fun e=>hne (by rw [e]))⟩
def putL:World→Nat→Nat→List Value→World
 | W,_,_,[]=>W
 | W,B,k,v::l=>putL (W.setCell ⟨B,k,none⟩ v) B (k+1) l
theorem SBox.putL {B t:Nat}:∀ (vs pre rest:List Value) (W:World),rest.length=vs.length→SBox W B t (pre++rest).toArray→SBox (putL W B pre.length vs) B t (pre++vs).toArray
 | [],pre,[],W,_,h=>h
 | [],pre,x::rest,W,hl,h=>by simp at hl
 | v::vs,pre,[],W,hl,h=>by simp at hl
 | v::vs,pre,x::rest,W,hl,h=>by
   have h1:=h.set pre.length v
   have e:((pre++x::rest).toArray).setIfInBounds pre.length v=((pre++[v])++rest).toArray:=by
    apply Array.ext';simp
   rw [e] at h1;have h2:=SBox.putL vs (pre++[v]) rest (W.setCell ⟨B,pre.length,none⟩ v) (by simpa using hl) h1;rw [List.length_append,List.append_assoc] at h2;exact h2
theorem kept_putL {B:Nat}:∀ (vs:List Value) (k:Nat) (W:World),W.grownBy (putL W B k vs) (some B)
 | [],k,W=>⟨rfl,rfl,rfl,Nat.le_refl _,fun i hi hne=>rfl⟩
 | v::vs,k,W=>(grown_set14 W B k v).trans (kept_putL vs (k+1) _)
open Go.RowKit Go.Maps
theorem pf_infoM:(Tryz.prog.info? 55).map (fun i=>(i.zero,i.size,i.bytes))=some (some (.agg #[.int .i64 0,.int .i64 0,.int .i64 0,.string ByteArray.empty,.string ByteArray.empty,.slice none 0 0]),6,80):=by kernel_rfl
theorem owns_kept15 {W W':World} {B e k n B' e' k' n':Nat} {v r:Value} {xs ys:List Value} (h:W.ownsRow B e k v n xs) (hr:W.ownsRow B' e' k' r n' ys) (hte:e≠e') (hg:W.grownBy W' r.ownBlock):W'.ownsRow B e k v n xs:=by
 refine h.kept hg ?_;rcases h.2 with ⟨rfl,_⟩ | ⟨g,cap,cur,rfl,_,hgb,_⟩
 ·exact .inl rfl
 ·exact .inr (fun e=>block_not_row hgb hte hr e)
theorem owns_slice15 {B e k n:Nat} {v:Value} {xs:List Value} {W:World} (h:W.ownsRow B e k v n xs):∃ a cap,v=.slice a n cap:=by
 rcases h.2 with ⟨rfl,rfl⟩ | ⟨g,cap,cur,rfl,_⟩
 ·exact ⟨none,0,rfl⟩
 ·exact ⟨_,cap,rfl⟩
theorem owns_base15 {W:World} {B C e k n:Nat} {v:Value} {xs:List Value} (h:W.ownsRow B e k v n xs) (hBC:C≤B):W.ownsRow C e k v n xs:=by
 refine ⟨h.1,?_⟩;rcases h.2 with h2 | ⟨g,cap,cur,h3,h4,h5⟩
 ·exact .inl h2
 ·exact .inr ⟨g,cap,cur,h3,Nat.le_trans hBC h4,h5⟩
theorem owns_type15 {W W':World} {B e k n b t:Nat} {v:Value} {xs:List Value} {cs:Array Value} (h:W.ownsRow B e k v n xs) (hb:SBox W b t cs) (hte:e≠t) (hg:W.grownBy W' (some b)):W'.ownsRow B e k v n xs:=by
 refine h.kept hg ?_;rcases h.2 with ⟨rfl,_⟩ | ⟨g,cap,cur,rfl,_,hgb,_⟩
 ·exact .inl rfl
 ·refine .inr (fun e=>?_)
  have e2:b=g:=by have e3:=e;simp [Value.ownBlock] at e3;omega
  rw [← e2] at hgb;have hb':W.heap[b]?=some (.cells cs t (0,0)):=hb;rw [hb'] at hgb;have:=Option.some.inj hgb
  injection this with _ h2 _
  exact hte h2.symm
theorem owns_set15 {W:World} {B e k n b j t:Nat} {v:Value} {xs:List Value} {cs:Array Value} (h:W.ownsRow B e k v n xs) (hb:SBox W b t cs) (hte:e≠t) (u:Value):(W.setCell ⟨b,j,none⟩ u).ownsRow B e k v n xs:=owns_type15 h hb hte (grown_set14 W b j u)
def PfW (W:World) (L':List PVt) (L:List Pf):Prop:=L'.length=L.length∧∀ (i:Nat) x p,L'[i]?=some x→L[i]?=some p→x.1=p.1∧x.2.1=p.2.1∧(∃ B,W.ownsRow B 9 1 x.2.2 p.2.2.length (strV p.2.2))∧p.2.2.length≤140737488351232∧∀ t∈p.2.2,t.length≤1125899906842624
theorem PfW.map {W W':World} {L':List PVt} {L:List Pf} (h:PfW W L' L) (hk:∀ B v n xs,W.ownsRow B 9 1 v n xs→W'.ownsRow B 9 1 v n xs):PfW W' L' L :=
 ⟨h.1,fun i x p hx hp=>by obtain ⟨a,b,⟨B,c⟩,d⟩:=h.2 i x p hx hp;exact ⟨a,b,⟨B,hk _ _ _ _ c⟩,d⟩⟩
theorem PfW.nil (W:World):PfW W [] []:=⟨rfl,fun i x p h=>by simp at h⟩
theorem PfW.push {W:World} {L':List PVt} {L:List Pf} (h:PfW W L' L) (x:PVt) (p:Pf) (h1:x.1=p.1) (h2:x.2.1=p.2.1) (h3:∃ B,W.ownsRow B 9 1 x.2.2 p.2.2.length (strV p.2.2)) (h4:p.2.2.length≤140737488351232) (h5:∀ t∈p.2.2,t.length≤1125899906842624):PfW W (L'++[x]) (L++[p]):=by
 refine ⟨by simp [h.1],fun i y s hy hs=>?_⟩;rcases Nat.lt_or_ge i L'.length with hi | hi
 ·rw [List.getElem?_append_left hi] at hy
  rw [List.getElem?_append_left (by rw [← h.1];exact hi)] at hs;exact h.2 i y s hy hs
 ·rw [List.getElem?_append_right hi] at hy
  rw [List.getElem?_append_right (by rw [← h.1];exact hi)] at hs;rw [h.1] at hy;rcases Nat.eq_zero_or_pos (i - L.length) with h0 | h0
  ·rw [h0] at hy hs
   simp only [List.getElem?_cons_zero,Option.some.injEq] at hy hs;subst hy hs;exact ⟨h1,h2,h3,h4,h5⟩
  ·rw [List.getElem?_eq_none (by simp;omega)] at hy
   cases hy
theorem PfW.of {W:World} {L':List PVt} {L:List Pf} (h:PfW W L' L):PfOf W L' L :=
 ⟨h.1,fun i x p hx hp=>by obtain ⟨a,b,⟨B,c⟩,d1,d2⟩:=h.2 i x p hx hp;exact ⟨a,b,IsTxt.own c d1 d2⟩⟩
structure MkS (w8 V:World) (cs:Value→Array Value) (vc vp:Value) (L':List PVt) (L:List Pf) (nv:Value) (N:List Int):Prop where
 bel:Below w8.heap.size w8 V
 bx:SBox V w8.heap.size 30 (cs vc)
 row:V.ownsRow w8.heap.size 55 6 vp L'.length (recV pfV L')
 of:PfW V L' L
 nd:V.ownsRow w8.heap.size 3 1 nv N.length (recV intV N)
theorem MkS.below {w8 V V':World} {cs:Value→Array Value} {vc vp:Value} {L':List PVt} {L:List Pf} {nv:Value} {N:List Int} (h:MkS w8 V cs vc vp L' L nv N) (hb:Below V.heap.size V V'):MkS w8 V' cs vc vp L' L nv N :=
 ⟨bel_trans h.bel hb,h.bx.below hb,owns_below h.row hb,h.of.map (fun _ _ _ _ c=>owns_below c hb),owns_below h.nd hb⟩
theorem MkS.ndcell {w8 V:World} {cs:Value→Array Value} {vc vp:Value} {L':List PVt} {L:List Pf} {g c:Nat} {N:List Int} (h:MkS w8 V cs vc vp L' L (.slice (some ⟨g,0,none⟩) N.length c) N) (k:Nat) (hk:k < N.length):V.cell? ⟨g,k,none⟩=some (.int .i64 N[k]):=by
 have c:=h.nd.cellAt k (by rw [Nat.mul_one];exact hk);rw [c];have:=recV_get (enc:=intV) (sz:=1) (fun _=>rfl) N k hk 0 (by omega);simpa [intV] using this
theorem MkS.put {w8 V:World} {cs:Value→Array Value} {vc vp:Value} {L':List PVt} {L:List Pf} {nv:Value} {N:List Int} (h:MkS w8 V cs vc vp L' L nv N) (hcs:(cs vc).setIfInBounds 12 vp=cs vp):MkS w8 (V.setCell ⟨w8.heap.size,12,none⟩ vp) cs vp vp L' L nv N :=
 ⟨h.bel.setCell (p:=⟨w8.heap.size,12,none⟩) (Nat.le_refl _) _,by have:=h.bx.set 12 vp;rw [hcs] at this;exact this,owns_set15 h.row h.bx (by decide) _,h.of.map (fun _ _ _ _ c=>owns_set15 c h.bx (by decide) _),owns_set15 h.nd h.bx (by decide) _⟩
theorem wp_pushP15 {ops:Array Oper} {rest:List Oper} {o:Oper} {a:Act} {Q:Exit→Act→World→Prop} (hgd:o.guard=none) (s x:Operand)
 (ho:o.op=.call { callee:=.builtin .append,args:=#[s,x],argTypes:=#[28,28] })
 {w8 V:World} {cs:Value→Array Value} {vp:Value} {L':List PVt} {L:List Pf} {nv:Value} {N:List Int} (S:MkS w8 V cs vp vp L' L nv N) (hs:a.eval s=vp) (y:PVt) (p:Pf) (h1:y.1=p.1) (h2:y.2.1=p.2.1) (h3:∃ B,V.ownsRow B 9 1 y.2.2 p.2.2.length (strV p.2.2)) (h4:p.2.2.length≤140737488351232) (h5:∀ t∈p.2.2,t.length≤1125899906842624) (c:Nat)
 (hx:a.eval x=.slice (some ⟨V.heap.size,0,none⟩) 1 c) (hL:L'.length≤1000000) (hone:∀ u∈pfV y,u.oneCell'=true)
 (h:∀ ad cap W',MkS w8 W' cs vp (.slice ad (L'.length+1) cap) (L'++[y]) (L++[p]) nv N→wpList Tryz.prog ops Q rest (a.put o.dst (.slice ad (L'.length+1) cap)) W'):wpList Tryz.prog ops Q (o::rest) a (V.alloc (.cells (pfV y).toArray 55)):=by
 obtain ⟨i0,hi,hz0,hz1,hz2⟩:=info_parts pf_infoM;have b1:=(Below.refl V.heap.size V).alloc (Nat.le_refl _) (.cells (pfV y).toArray 55);have S1:=S.below b1;refine wpList_append_own_at _ hgd s x 28 ho w8.heap.size 55 i0 (.agg #[.int .i64 0,.int .i64 0,.int .i64 0,.string ByteArray.empty,.string ByteArray.empty,.slice none 0 0]) 6 80 Tryz.underlying28 hi hz0 hz1 hz2 rfl (by decide) vp _ _ hs S1.row ⟨V.heap.size,0,none⟩ 1 c (pfV y) hx rfl ?_ hone (by unfold maxLen;omega) (by omega) (by have:=S.bel.size;simp;omega) ?_
 ·intro j u hj
  have ea:(⟨V.heap.size,0,none⟩:Addr).add j=⟨V.heap.size,j,none⟩:=by unfold Addr.add;split<;>simp_all
  rw [ea];exact (SBox.new V 55 (pfV y).toArray).cell j u (by simpa using hj)
 ·intro v' w' hown hg _ hat
  obtain ⟨ad,cap,rfl⟩:=owns_slice15 hown;refine h ad cap w' ⟨?_,(hg.block _ S1.bx.lt (block_not_row S1.bx (by decide) S1.row)).trans S1.bx,?_,?_,owns_kept15 S1.nd S1.row (by decide) hg⟩
  ·exact S1.bel.grown hg S1.bel.size (fun j hj=>(S1.row.lt j hj).1)
  ·rw [List.length_append]
   have e:recV pfV (L'++[y])=recV pfV L'++pfV y:=by rw [recV_append];simp [recV]
   rw [e];exact hown
  ·refine PfW.push (S1.of.map (fun _ _ _ _ c=>owns_kept15 c S1.row (by decide) hg)) y p h1 h2 ?_ h4 h5
   obtain ⟨B,hB⟩:=h3;exact ⟨B,owns_kept15 (owns_below hB b1) S1.row (by decide) hg⟩
end Go.Proofs.YthamoeekiglphaaGreatDoor
namespace Go.Proofs.YthamoeekiglphaaGreatDoor
set_option maxRecDepth 100000
open Go.RowKit
set_option linter.unusedVariables false
attribute [local go_sem] ba_size ba_append ba_get ba_extract
theorem bytE_len (x:Ev) (h:mayE x):(bytE x).length≤80∧2≤(bytE x).length:=by
 unfold bytE txtE
 by_cases hk:keyedE x.1
 ·rw [if_pos hk]
  obtain ⟨_,h5⟩:=h;rw [if_pos hk] at h5;have l1:=Lm.lenL_le x.2.2.1.length;have l2:=Lm.lenL_le x.2.2.2.length;simp only [List.length_cons,List.length_append];omega
 ·rw [if_neg hk];simp
end Go.Proofs.YthamoeekiglphaaGreatDoor
namespace Go.Proofs.YthamoeekiglphaaGreatDoor
set_option maxRecDepth 100000
open Go.RowKit
set_option linter.unusedVariables false
attribute [local go_sem] ba_size
abbrev pfA (p:Pf) (u:Value):Array Value:=#[.int .i64 p.1,.int .i64 p.2.1.1,.int .i64 p.2.1.2.1,.string ⟨p.2.1.2.2.1.toArray⟩,.string ⟨p.2.1.2.2.2.toArray⟩,u]
abbrev evA15 (x:Ev):Array Value:=#[.int .i64 x.1,.int .i64 x.2.1,.string ⟨x.2.2.1.toArray⟩,.string ⟨x.2.2.2.toArray⟩]
theorem size_pf15:(Tryz.prog.info? 55).map (·.size)=some 6:=by kernel_rfl
theorem size_ev15:(Tryz.prog.info? 53).map (·.size)=some 4:=by kernel_rfl
theorem dec_beq15 (x y:List UInt8):decide (x=y)=(x==y):=by
 by_cases h:x=y
 ·rw [decide_eq_true h,h];exact (beq_self_eq_true y).symm
 ·rw [decide_eq_false h];exact (beq_eq_false_iff_ne.2 h).symm
set_option maxHeartbeats 2000000 in
theorem pat15_any (W:World) (b:Nat) (i:Int) (hc:W.cell? ⟨b,0,none⟩=some (.int .i64 i)) (p:Pf) (a:Option Addr) (n c:Nat) :
 Calls Tryz.prog 83 #[.agg (pfA p (.slice a n c)),.pointer (some ⟨b,0,none⟩)] W fun e V=>e=.returned (.bool (pAt i p))∧Below W.heap.size W V:=by
 obtain ⟨p0,⟨x0,x1,x2,x3⟩,q⟩:=p;have X:=SBox.new W 55 #[.int .i64 p0,.int .i64 x0,.int .i64 x1,.string ⟨x2.toArray⟩,.string ⟨x3.toArray⟩,.slice a n c];have B:=(Below.refl W.heap.size W).alloc (Nat.le_refl _) (.cells #[.int .i64 p0,.int .i64 x0,.int .i64 x1,.string ⟨x2.toArray⟩,.string ⟨x3.toArray⟩,.slice a n c] 55);have k:=(B.cell (p:=⟨b,0,none⟩) (World.block_lt_of_cell? W _ hc)).trans hc;have c0:=X.cell 0 _ rfl;obtain ⟨r,hr⟩:∃ r,pAt i (p0,(x0,x1,x2,x3),q)=r:=⟨_,rfl⟩;rw [hr];have g1:(p0==i)=r:=hr;clear hr hc X;go_enter Tryz.func83,Tryz.ntmps83
 go_wp2_with fail
 go_ret
 exact ⟨rfl,B⟩
set_option maxHeartbeats 2000000 in
theorem pend15_any (W:World) (b:Nat) (t:Int) (hc:W.cell? ⟨b,0,none⟩=some (.int .i64 t)) (p:Pf) (a:Option Addr) (n c:Nat) :
 Calls Tryz.prog 84 #[.agg (pfA p (.slice a n c)),.pointer (some ⟨b,0,none⟩)] W fun e V=>e=.returned (.bool (pEnd t p))∧Below W.heap.size W V:=by
 obtain ⟨p0,⟨x0,x1,x2,x3⟩,q⟩:=p;have X:=SBox.new W 55 #[.int .i64 p0,.int .i64 x0,.int .i64 x1,.string ⟨x2.toArray⟩,.string ⟨x3.toArray⟩,.slice a n c];have B:=(Below.refl W.heap.size W).alloc (Nat.le_refl _) (.cells #[.int .i64 p0,.int .i64 x0,.int .i64 x1,.string ⟨x2.toArray⟩,.string ⟨x3.toArray⟩,.slice a n c] 55);have k:=(B.cell (p:=⟨b,0,none⟩) (World.block_lt_of_cell? W _ hc)).trans hc;have c1:=X.cell 1 _ rfl;have c2:=X.cell 2 _ rfl;have hp:pEnd t (p0,(x0,x1,x2,x3),q)=((x1==t)&&((x0==4) || (x0==5))):=rfl;rw [hp];obtain ⟨r1,g1⟩:∃ r,(x1==t)=r:=⟨_,rfl⟩;obtain ⟨r2,g2⟩:∃ r,(x0==4)=r:=⟨_,rfl⟩;obtain ⟨r3,g3⟩:∃ r,(x0==5)=r:=⟨_,rfl⟩;rw [g1,g2,g3];clear hp hc X;cases r1<;>cases r2<;>cases r3
 all_goals
  go_enter Tryz.func84,Tryz.ntmps84
  go_wp2_with fail
  go_ret
  exact ⟨rfl,B⟩
set_option maxHeartbeats 2000000 in
theorem pwr15_any (W:World) (b:Nat) (y:Ev) (hc:SBox W b 53 (evA15 y)) (p:Pf) (a:Option Addr) (n c:Nat) :
 Calls Tryz.prog 114 #[.agg (pfA p (.slice a n c)),.pointer (some ⟨b,0,none⟩)] W fun e V=>e=.returned (.bool (pWr y.2.2.1 y.2.2.2 p))∧Below W.heap.size W V:=by
 obtain ⟨p0,⟨x0,x1,x2,x3⟩,q⟩:=p;obtain ⟨y0,y1,y2,y3⟩:=y;have X:=SBox.new W 55 #[.int .i64 p0,.int .i64 x0,.int .i64 x1,.string ⟨x2.toArray⟩,.string ⟨x3.toArray⟩,.slice a n c];have Y:=hc.alloc (.cells #[.int .i64 p0,.int .i64 x0,.int .i64 x1,.string ⟨x2.toArray⟩,.string ⟨x3.toArray⟩,.slice a n c] 55);have B:=(Below.refl W.heap.size W).alloc (Nat.le_refl _) (.cells #[.int .i64 p0,.int .i64 x0,.int .i64 x1,.string ⟨x2.toArray⟩,.string ⟨x3.toArray⟩,.slice a n c] 55);have k2:=Y.cell 2 _ rfl;have k3:=Y.cell 3 _ rfl;have c1:=X.cell 1 _ rfl;have c3:=X.cell 3 _ rfl;have c4:=X.cell 4 _ rfl;have hp:pWr y2 y3 (p0,(x0,x1,x2,x3),q)=((x0==3)&&(x2==y2)&&(x3==y3)):=by rw [← dec_beq15,← dec_beq15];rfl
 rw [hp];obtain ⟨r1,g1⟩:∃ r,(x0==3)=r:=⟨_,rfl⟩;obtain ⟨r2,g2⟩:∃ r,(x2==y2)=r:=⟨_,rfl⟩;obtain ⟨r3,g3⟩:∃ r,(x3==y3)=r:=⟨_,rfl⟩;rw [g1,g2,g3];clear hp hc X Y;cases r1<;>cases r2<;>cases r3
 all_goals
  go_enter Tryz.func114,Tryz.ntmps114
  go_wp2_with fail
  go_ret
  exact ⟨rfl,B⟩
def PfCall (K:Nat) (caps:Array Value) (W:World) (f:Pf→Bool):Prop:=∀ V,Below W.heap.size W V→∀ (p:Pf) (a:Option Addr) (n c:Nat),Calls Tryz.prog K (#[.agg (pfA p (.slice a n c))]++caps) V fun e V'=>e=.returned (.bool (f p))∧Below V.heap.size V V'
set_option maxHeartbeats 2000000 in
theorem pidx15_any (l:List Pf) (v:Value) (W:World) (hP:IsPfs W v l) (K:Nat) (hK:∀ args V,(callFunc K args).run Tryz.prog V=.ok (.enter K args) V) (caps:Array Value) (f:Pf→Bool) (hf:PfCall K caps W f) :
 Calls Tryz.prog 113 #[v,.func (.func K) #[] caps] W fun e W'=>e=.returned (.int .i64 (oI (fp f l)))∧Below W.heap.size W W':=by
 obtain ⟨a,cap,rfl,h1,h2,h3,HC⟩:=hP.reads;have C:=Lib.hid hf;obtain ⟨nn,hn⟩:∃ n,l.length=n:=⟨_,rfl⟩;have HN:=Lib.hid hn;have HFp:Hid (fp f l=fi (fun k=>f (pf15 l k)) nn):=by show _=_;rw [← hn];rfl
 rw [hn] at h1 h3 ⊢;clear hn hP hf;go_enter Tryz.func113,Tryz.ntmps113
 go_wp2_with fail
 go_loopw [8] (fun i wr=>∃ k:Nat,k≤nn∧i=.int .i64 k∧Hid (∀ j,j < k→f (pf15 l j)=false)∧Below W.heap.size W wr) (fun i _=>nn - (RowKit.intOf i).toNat)
 case atStart=>exact ⟨0,Nat.zero_le _,rfl,(fun j hj=>absurd hj (by omega)),Below.refl _ _⟩
 case round =>
  obtain ⟨k,hk,rfl,HF,hB⟩:=hrel
  by_cases hlt:k < nn
  ·have j0:(k:Int) < (nn:Int):=by omega
   have hkl:k < l.length:=by have:=HN.out;omega
   obtain ⟨bb,off,rfl,u,hu,HQ⟩:=HC.out k hkl;obtain ⟨c0,c1,c2,c3,c4,c5⟩:=HQ wr hB;obtain ⟨ua,uc,rfl,_⟩:=hu.some_at;have D:=C.out wr hB l[k] ua l[k].2.2.length uc;have HI:Hid (f (pf15 l k)=f l[k]):=by show _=_;rw [pf15_at l k hkl]
   obtain ⟨bl,hbl⟩:∃ bl,f l[k]=bl:=⟨_,rfl⟩;rw [hbl] at D HI;obtain ⟨⟨y0,⟨x0,x1,x2,x3⟩,q⟩,hx⟩:∃ x,l[k]=x:=⟨_,rfl⟩;rw [hx] at c0 c1 c2 c3 c4 c5 D;simp only at c0 c1 c2 c3 c4 c5 D;obtain ⟨un,hun⟩:∃ x,q.length=x:=⟨_,rfl⟩;rw [hun] at c5 D;clear hbl hx hun hu HQ;cases bl with
   | true =>
     have HE:Hid (fp f l=some k):=HFp.out.trans ((fi_some _ _ _).2 ⟨hlt,HI.out,HF.out⟩);go_wp2_with fail
     refine D.mono ?_;rintro e1 w1 ⟨rfl,b1⟩;go_wp2_with fail
     go_ret
     refine ⟨?_,bel_trans hB b1⟩;rw [HE.out];rfl
   | false =>
     go_wp2_with fail
     refine D.mono ?_;rintro e1 w1 ⟨rfl,b1⟩;go_wp2_with fail
     refine ⟨⟨k+1,by omega,by first | go_num | simp,?_,bel_trans hB b1⟩,by simp [RowKit.intOf];omega⟩;intro j hj;rcases Nat.lt_succ_iff_lt_or_eq.1 hj with h' | rfl
     ·exact HF.out j h'
     ·exact HI.out
  ·obtain rfl:k=nn:=by omega
   have jq:¬ (k:Int) < (k:Int):=by omega
   have HE:Hid (fp f l=none):=HFp.out.trans ((fi_none _ _).2 HF.out);go_wp2_with fail
   go_ret
   refine ⟨?_,hB⟩;rw [HE.out];rfl
def FstRes (w:World) (l:List Pf) (o:Option Nat) (e:Ending) (w':World):Prop:=∃ a n c,e=.returned (.tuple #[.agg (pfA (gotO l o) (.slice a n c)),.bool o.isSome])∧Below w.heap.size w w'
set_option maxHeartbeats 2000000 in
theorem pfirst15_any (l:List Pf) (v:Value) (w:World) (hP:IsPfs w v l) (K:Nat) (hK:∀ args V,(callFunc K args).run Tryz.prog V=.ok (.enter K args) V) (caps:Array Value) (f:Pf→Bool) (hf:PfCall K caps w f) :
 Calls Tryz.prog 82 #[v,.func (.func K) #[] caps] w fun e w'=>FstRes w l (fp f l) e w':=by
 have X0:=SBox.new w 55 #[.int .i64 0,.int .i64 0,.int .i64 0,.string ⟨#[]⟩,.string ⟨#[]⟩,.slice none 0 0];have B0:=(Below.refl w.heap.size w).alloc (Nat.le_refl _) (.cells #[.int .i64 0,.int .i64 0,.int .i64 0,.string ⟨#[]⟩,.string ⟨#[]⟩,.slice none 0 0] 55);have D:=pidx15_any l v _ (hP.below B0) K hK caps f (fun V hV=>hf V (bel_trans B0 hV));obtain ⟨a,cap,rfl,h1,h2,h3,HC⟩:=hP.reads;have HS:=Lib.hid (fun k=>fp_some f l k);obtain ⟨nn,hn⟩:∃ n,l.length=n:=⟨_,rfl⟩;have HN:=Lib.hid hn;rw [hn] at h1 h3 D ⊢;clear hn hP hf;cases ho:fp f l with
 | none =>
   rw [ho] at D;have HO:Hid (oI none=-1):=rfl;rw [HO.out] at D;clear ho;go_enter Tryz.func82,Tryz.ntmps82
   go_wp2_with fail
   refine D.mono ?_;rintro e1 w1 ⟨rfl,b1⟩;have X1:=X0.below b1;have B1:=bel_trans B0 b1;have x0:=X1.cell 0 _ rfl;have x1:=X1.cell 1 _ rfl;have x2:=X1.cell 2 _ rfl;have x3:=X1.cell 3 _ rfl;have x4:=X1.cell 4 _ rfl;have x5:=X1.cell 5 _ rfl;have f0:=X1.frozen 0;have f1:=X1.frozen 1;have f2:=X1.frozen 2;have f3:=X1.frozen 3;have f4:=X1.frozen 4;have f5:=X1.frozen 5;have SP:=Lib.hid (SBox.putL [.int .i64 0,.int .i64 0,.int .i64 0,.string ⟨#[]⟩,.string ⟨#[]⟩,.slice none 0 0] [] [.int .i64 0,.int .i64 0,.int .i64 0,.string ⟨#[]⟩,.string ⟨#[]⟩,.slice none 0 0] w1 rfl X1);have K1:=kept_putL (B:=w.heap.size) [.int .i64 0,.int .i64 0,.int .i64 0,.string ⟨#[]⟩,.string ⟨#[]⟩,.slice none 0 0] 0 w1;have BP:=B1.grown K1 B1.size (fun q h9=>by cases h9;exact Nat.le_refl _)
   have HR:Hid (FstRes w l none (.returned (.tuple #[.agg #[.int .i64 0,.int .i64 0,.int .i64 0,.string ⟨#[]⟩,.string ⟨#[]⟩,.slice none 0 0],.bool false])) _):=⟨none,0,0,rfl,BP⟩;go_wp2_with fail
   exact bodyPost_ret (v:=.tuple #[.agg #[.int .i64 0,.int .i64 0,.int .i64 0,.string ⟨#[]⟩,.string ⟨#[]⟩,.slice none 0 0],.bool false]) (results_row_tmp Tryz.results82 _ _ w.heap.size 55 _ (0,0) _ rfl SP.out Tryz.underlying55 rfl size_pf15) rfl HR.out
 | some k =>
   obtain ⟨k1,k2,k3⟩:=(HS.out k).1 ho;rw [ho] at D;have hkn:k < nn:=by have:=HN.out;omega
   obtain ⟨bb,off,rfl,u,hu,HQ⟩:=HC.out k k1;obtain ⟨ua,uc,rfl,_⟩:=hu.some_at;have HG:Hid (gotO l (some k)=l[k]):=pf15_at l k k1;have HQ':=Lib.hid HQ;obtain ⟨⟨y0,⟨z0,z1,z2,z3⟩,q⟩,hx⟩:∃ x,l[k]=x:=⟨_,rfl⟩;obtain ⟨un,hun⟩:∃ x,q.length=x:=⟨_,rfl⟩;have HX:=Lib.hid hx;have HU:=Lib.hid hun;have j0:(k:Int) < (nn:Int):=by omega
   have j1:decide ((k:Int) < 0)=false:=decide_eq_false (by omega);clear ho k2 k3 hu HQ HS hx hun;have HO:Hid (oI (some k)=(k:Int)):=rfl;rw [HO.out] at D;go_enter Tryz.func82,Tryz.ntmps82
   go_wp2_with fail
   refine D.mono ?_;rintro e1 w1 ⟨rfl,b1⟩;have X1:=X0.below b1;have B1:=bel_trans B0 b1;obtain ⟨c0,c1,c2,c3,c4,c5⟩:=HQ'.out w1 B1;rw [HX.out] at c0 c1 c2 c3 c4 c5;simp only at c0 c1 c2 c3 c4 c5;rw [HU.out] at c5;have x0:=X1.cell 0 _ rfl;have x1:=X1.cell 1 _ rfl;have x2:=X1.cell 2 _ rfl;have x3:=X1.cell 3 _ rfl;have x4:=X1.cell 4 _ rfl;have x5:=X1.cell 5 _ rfl;have f0:=X1.frozen 0;have f1:=X1.frozen 1;have f2:=X1.frozen 2;have f3:=X1.frozen 3;have f4:=X1.frozen 4;have f5:=X1.frozen 5;have SP:=Lib.hid (SBox.putL [.int .i64 y0,.int .i64 z0,.int .i64 z1,.string ⟨z2.toArray⟩,.string ⟨z3.toArray⟩,.slice ua un uc] [] [.int .i64 0,.int .i64 0,.int .i64 0,.string ⟨#[]⟩,.string ⟨#[]⟩,.slice none 0 0] w1 rfl X1)
   have K1:=kept_putL (B:=w.heap.size) [.int .i64 y0,.int .i64 z0,.int .i64 z1,.string ⟨z2.toArray⟩,.string ⟨z3.toArray⟩,.slice ua un uc] 0 w1;have BP:=B1.grown K1 B1.size (fun q h9=>by cases h9;exact Nat.le_refl _);have HR:Hid (FstRes w l (some k) (.returned (.tuple #[.agg #[.int .i64 y0,.int .i64 z0,.int .i64 z1,.string ⟨z2.toArray⟩,.string ⟨z3.toArray⟩,.slice ua un uc],.bool true])) _):=⟨ua,un,uc,by rw [HG.out,HX.out];rfl,BP⟩;clear K1 BP D hK;go_wp2_with fail
   exact bodyPost_ret (v:=.tuple #[.agg #[.int .i64 y0,.int .i64 z0,.int .i64 z1,.string ⟨z2.toArray⟩,.string ⟨z3.toArray⟩,.slice ua un uc],.bool true]) (results_row_tmp Tryz.results82 _ _ w.heap.size 55 _ (0,0) _ rfl SP.out Tryz.underlying55 rfl size_pf15) rfl HR.out
set_option maxHeartbeats 2000000 in
theorem pevent15_any (l:List Pf) (v:Value) (w:World) (hP:IsPfs w v l) (i:Int) :
 Calls Tryz.prog 39 #[v,.int .i64 i] w fun e w'=>e=.returned (.agg (evA15 (evP l i)))∧Below w.heap.size w w':=by
 have b0:=(Below.refl w.heap.size w).alloc (Nat.le_refl _) (.cells #[.int .i64 i] 3);have b1:=b0.alloc (by simp) (.cells #[.int .i64 0,.int .i64 0,.string ⟨#[]⟩,.string ⟨#[]⟩] 53);have Y0:=SBox.new w 3 #[.int .i64 i];have Y1:=Y0.alloc (.cells #[.int .i64 0,.int .i64 0,.string ⟨#[]⟩,.string ⟨#[]⟩] 53);have X1:=SBox.new (w.alloc (.cells #[.int .i64 i] 3)) 53 #[.int .i64 0,.int .i64 0,.string ⟨#[]⟩,.string ⟨#[]⟩];rw [World.size_alloc] at X1;have hE:=enters_of Tryz.func83 (by kernel_rfl) rfl;have D:=pfirst15_any l v _ (hP.below b1) 83 hE #[.pointer (some ⟨w.heap.size,0,none⟩)] (pAt i) (fun V hV p a n c=>pat15_any V w.heap.size i ((Y1.below hV).cell 0 _ rfl) p a n c);have HG:Hid ((gotO l (fp (pAt i) l)).2.1=evP l i):=rfl
 generalize fp (pAt i) l=o at D HG;generalize evP l i=Y at HG ⊢;obtain ⟨a,cap,rfl,h1,h2,h3⟩:=hP.len;obtain ⟨nn,hn⟩:∃ n,l.length=n:=⟨_,rfl⟩;rw [hn] at h1 h3 D ⊢;clear hn hP hE;go_enter Tryz.func39,Tryz.ntmps39
 go_wp2_with fail
 refine D.mono ?_;rintro e w1 ⟨a1,n1,c1,rfl,b2⟩;have X2:=X1.below b2;have B2:=bel_trans b1 b2;generalize gotO l o=P at HG ⊢;obtain ⟨p0,YP,q⟩:=P;obtain rfl:YP=Y:=HG.out;obtain ⟨x0,x1,x2,x3⟩:=YP;have B3:=B2.alloc B2.size (.cells #[.int .i64 p0,.int .i64 x0,.int .i64 x1,.string ⟨x2.toArray⟩,.string ⟨x3.toArray⟩,.slice a1 n1 c1] 55);have Z3:=SBox.new w1 55 #[.int .i64 p0,.int .i64 x0,.int .i64 x1,.string ⟨x2.toArray⟩,.string ⟨x3.toArray⟩,.slice a1 n1 c1];have X3:=X2.alloc (.cells #[.int .i64 p0,.int .i64 x0,.int .i64 x1,.string ⟨x2.toArray⟩,.string ⟨x3.toArray⟩,.slice a1 n1 c1] 55);have z1:=Z3.cell 1 _ rfl;have z2:=Z3.cell 2 _ rfl;have z3:=Z3.cell 3 _ rfl;have z4:=Z3.cell 4 _ rfl;have y0:=X3.cell 0 _ rfl
 have y1:=X3.cell 1 _ rfl;have y2:=X3.cell 2 _ rfl;have y3:=X3.cell 3 _ rfl;have f0:=X3.frozen 0;have f1:=X3.frozen 1;have f2:=X3.frozen 2;have f3:=X3.frozen 3;have SP:=Lib.hid (SBox.putL [.int .i64 x0,.int .i64 x1,.string ⟨x2.toArray⟩,.string ⟨x3.toArray⟩] [] [.int .i64 0,.int .i64 0,.string ⟨#[]⟩,.string ⟨#[]⟩] _ rfl X3);have K1:=kept_putL (B:=w.heap.size+1) [.int .i64 x0,.int .i64 x1,.string ⟨x2.toArray⟩,.string ⟨x3.toArray⟩] 0 (w1.alloc (.cells #[.int .i64 p0,.int .i64 x0,.int .i64 x1,.string ⟨x2.toArray⟩,.string ⟨x3.toArray⟩,.slice a1 n1 c1] 55));have BP:=B3.grown K1 B3.size (fun q h9=>by cases h9;omega);clear X1 X2 Y0 Y1 b0 b1 b2 B2 D HG;go_wp2_with fail
 exact bodyPost_ret (v:=.agg #[.int .i64 x0,.int .i64 x1,.string ⟨x2.toArray⟩,.string ⟨x3.toArray⟩]) (results_row1 Tryz.results39 _ _ (w.heap.size+1) 53 _ (0,0) _ rfl SP.out Tryz.underlying53 rfl size_ev15) rfl ⟨rfl,BP⟩
set_option maxHeartbeats 2000000 in
theorem pends15_any (l:List Pf) (v:Value) (w:World) (hP:IsPfs w v l) (t:Int) :
 Calls Tryz.prog 41 #[v,.int .i64 t] w fun e w'=>(∃ a n c,e=.returned (.agg (pfA (endP l t) (.slice a n c))))∧Below w.heap.size w w':=by
 have b0:=(Below.refl w.heap.size w).alloc (Nat.le_refl _) (.cells #[.int .i64 t] 3);have b1:=b0.alloc (by simp) (.cells #[.int .i64 0,.int .i64 0,.int .i64 0,.string ⟨#[]⟩,.string ⟨#[]⟩,.slice none 0 0] 55);have Y0:=SBox.new w 3 #[.int .i64 t];have Y1:=Y0.alloc (.cells #[.int .i64 0,.int .i64 0,.int .i64 0,.string ⟨#[]⟩,.string ⟨#[]⟩,.slice none 0 0] 55);have X1:=SBox.new (w.alloc (.cells #[.int .i64 t] 3)) 55 #[.int .i64 0,.int .i64 0,.int .i64 0,.string ⟨#[]⟩,.string ⟨#[]⟩,.slice none 0 0];rw [World.size_alloc] at X1;have hE:=enters_of Tryz.func84 (by kernel_rfl) rfl;have D:=pfirst15_any l v _ (hP.below b1) 84 hE #[.pointer (some ⟨w.heap.size,0,none⟩)] (pEnd t) (fun V hV p a n c=>pend15_any V w.heap.size t ((Y1.below hV).cell 0 _ rfl) p a n c)
 have HG:Hid (gotO l (fp (pEnd t) l)=endP l t):=rfl;generalize fp (pEnd t) l=o at D HG;generalize endP l t=P at HG ⊢;obtain ⟨a,cap,rfl,h1,h2,h3⟩:=hP.len;obtain ⟨nn,hn⟩:∃ n,l.length=n:=⟨_,rfl⟩;rw [hn] at h1 h3 D ⊢;clear hn hP hE;go_enter Tryz.func41,Tryz.ntmps41
 go_wp2_with fail
 refine D.mono ?_;rintro e w1 ⟨a1,n1,c1,rfl,b2⟩;have X2:=X1.below b2;have B2:=bel_trans b1 b2;rw [HG.out];obtain ⟨p0,⟨x0,x1,x2,x3⟩,q⟩:=P;have B3:=B2.alloc B2.size (.cells #[.int .i64 p0,.int .i64 x0,.int .i64 x1,.string ⟨x2.toArray⟩,.string ⟨x3.toArray⟩,.slice a1 n1 c1] 55);have Z3:=SBox.new w1 55 #[.int .i64 p0,.int .i64 x0,.int .i64 x1,.string ⟨x2.toArray⟩,.string ⟨x3.toArray⟩,.slice a1 n1 c1];have X3:=X2.alloc (.cells #[.int .i64 p0,.int .i64 x0,.int .i64 x1,.string ⟨x2.toArray⟩,.string ⟨x3.toArray⟩,.slice a1 n1 c1] 55);have z0:=Z3.cell 0 _ rfl;have z1:=Z3.cell 1 _ rfl;have z2:=Z3.cell 2 _ rfl;have z3:=Z3.cell 3 _ rfl;have z4:=Z3.cell 4 _ rfl;have z5:=Z3.cell 5 _ rfl;have y0:=X3.cell 0 _ rfl
 have y1:=X3.cell 1 _ rfl;have y2:=X3.cell 2 _ rfl;have y3:=X3.cell 3 _ rfl;have y4:=X3.cell 4 _ rfl;have y5:=X3.cell 5 _ rfl;have f0:=X3.frozen 0;have f1:=X3.frozen 1;have f2:=X3.frozen 2;have f3:=X3.frozen 3;have f4:=X3.frozen 4;have f5:=X3.frozen 5;have SP:=Lib.hid (SBox.putL [.int .i64 p0,.int .i64 x0,.int .i64 x1,.string ⟨x2.toArray⟩,.string ⟨x3.toArray⟩,.slice a1 n1 c1] [] [.int .i64 0,.int .i64 0,.int .i64 0,.string ⟨#[]⟩,.string ⟨#[]⟩,.slice none 0 0] _ rfl X3);have K1:=kept_putL (B:=w.heap.size+1) [.int .i64 p0,.int .i64 x0,.int .i64 x1,.string ⟨x2.toArray⟩,.string ⟨x3.toArray⟩,.slice a1 n1 c1] 0 (w1.alloc (.cells #[.int .i64 p0,.int .i64 x0,.int .i64 x1,.string ⟨x2.toArray⟩,.string ⟨x3.toArray⟩,.slice a1 n1 c1] 55))
 have BP:=B3.grown K1 B3.size (fun q h9=>by cases h9;omega);clear X1 X2 Y0 Y1 b0 b1 b2 B2 D HG;go_wp2_with fail
 exact bodyPost_ret (v:=.agg #[.int .i64 p0,.int .i64 x0,.int .i64 x1,.string ⟨x2.toArray⟩,.string ⟨x3.toArray⟩,.slice a1 n1 c1]) (results_row1 Tryz.results41 _ _ (w.heap.size+1) 55 _ (0,0) _ rfl SP.out Tryz.underlying55 rfl size_pf15) rfl ⟨⟨a1,n1,c1,rfl⟩,BP⟩
set_option maxHeartbeats 2000000 in
theorem pcommit15_any (l:List Pf) (v:Value) (w:World) (hP:IsPfs w v l) (t:Int) :
 Calls Tryz.prog 40 #[v,.int .i64 t] w fun e w'=>e=.returned (.int .i64 (cmP l t))∧Below w.heap.size w w':=by
 have D:=pends15_any l v w hP t;have HC:Hid (cmP l t=if (endP l t).2.1.1=4∧0≤(endP l t).1 then (endP l t).1 else -1):=rfl;obtain ⟨a,cap,rfl,h1,h2,h3⟩:=hP.len;obtain ⟨nn,hn⟩:∃ n,l.length=n:=⟨_,rfl⟩;rw [hn] at h1 h3 D ⊢;rw [HC.out];generalize endP l t=P at D ⊢;obtain ⟨p0,⟨x0,x1,x2,x3⟩,q⟩:=P;simp only at D ⊢;clear hn hP HC
 by_cases d1:x0=4
 ·have e1:(x0==4)=true:=by rw [d1];rfl
  by_cases d2:0≤p0
  ·have e2:decide (p0 ≥ 0)=true:=decide_eq_true d2
   rw [if_pos ⟨d1,d2⟩];clear d1;go_enter Tryz.func40,Tryz.ntmps40
   go_wp2_with fail
   refine D.mono ?_;rintro e w1 ⟨⟨a1,n1,c1,rfl⟩,b1⟩;have Z:=SBox.new w1 55 #[.int .i64 p0,.int .i64 x0,.int .i64 x1,.string ⟨x2.toArray⟩,.string ⟨x3.toArray⟩,.slice a1 n1 c1];have B:=b1.alloc b1.size (.cells #[.int .i64 p0,.int .i64 x0,.int .i64 x1,.string ⟨x2.toArray⟩,.string ⟨x3.toArray⟩,.slice a1 n1 c1] 55);have z0:=Z.cell 0 _ rfl;have z1:=Z.cell 1 _ rfl;go_wp2_with fail
   go_ret
   exact ⟨rfl,B⟩
  ·have e2:decide (p0 ≥ 0)=false:=decide_eq_false d2
   rw [if_neg (fun h=>d2 h.2)];clear d1;go_enter Tryz.func40,Tryz.ntmps40
   go_wp2_with fail
   refine D.mono ?_;rintro e w1 ⟨⟨a1,n1,c1,rfl⟩,b1⟩;have Z:=SBox.new w1 55 #[.int .i64 p0,.int .i64 x0,.int .i64 x1,.string ⟨x2.toArray⟩,.string ⟨x3.toArray⟩,.slice a1 n1 c1];have B:=b1.alloc b1.size (.cells #[.int .i64 p0,.int .i64 x0,.int .i64 x1,.string ⟨x2.toArray⟩,.string ⟨x3.toArray⟩,.slice a1 n1 c1] 55);have z0:=Z.cell 0 _ rfl;have z1:=Z.cell 1 _ rfl;go_wp2_with fail
   go_ret
   exact ⟨rfl,B⟩
 ·have e1:(x0==4)=false:=beq_eq_false_iff_ne.2 d1
  rw [if_neg (fun h=>d1 h.1)];go_enter Tryz.func40,Tryz.ntmps40
  go_wp2_with fail
  refine D.mono ?_;rintro e w1 ⟨⟨a1,n1,c1,rfl⟩,b1⟩;have Z:=SBox.new w1 55 #[.int .i64 p0,.int .i64 x0,.int .i64 x1,.string ⟨x2.toArray⟩,.string ⟨x3.toArray⟩,.slice a1 n1 c1];have B:=b1.alloc b1.size (.cells #[.int .i64 p0,.int .i64 x0,.int .i64 x1,.string ⟨x2.toArray⟩,.string ⟨x3.toArray⟩,.slice a1 n1 c1] 55);have z0:=Z.cell 0 _ rfl;have z1:=Z.cell 1 _ rfl;go_wp2_with fail
  go_ret
  exact ⟨rfl,B⟩
set_option maxHeartbeats 2000000 in
theorem pwriter15_any (l:List Pf) (v:Value) (w:World) (hP:IsPfs w v l) (y:Ev) :
 Calls Tryz.prog 85 #[v,.agg (evA15 y)] w fun e w'=>FstRes w l (wrP l y.2.2.1 y.2.2.2) e w':=by
 obtain ⟨y0,y1,y2,y3⟩:=y;have b0:=(Below.refl w.heap.size w).alloc (Nat.le_refl _) (.cells #[.int .i64 y0,.int .i64 y1,.string ⟨y2.toArray⟩,.string ⟨y3.toArray⟩] 53);have b1:=b0.alloc (by simp) (.cells #[.int .i64 0,.int .i64 0,.int .i64 0,.string ⟨#[]⟩,.string ⟨#[]⟩,.slice none 0 0] 55);have Y0:=SBox.new w 53 #[.int .i64 y0,.int .i64 y1,.string ⟨y2.toArray⟩,.string ⟨y3.toArray⟩];have Y1:=Y0.alloc (.cells #[.int .i64 0,.int .i64 0,.int .i64 0,.string ⟨#[]⟩,.string ⟨#[]⟩,.slice none 0 0] 55);have X1:=SBox.new (w.alloc (.cells #[.int .i64 y0,.int .i64 y1,.string ⟨y2.toArray⟩,.string ⟨y3.toArray⟩] 53)) 55 #[.int .i64 0,.int .i64 0,.int .i64 0,.string ⟨#[]⟩,.string ⟨#[]⟩,.slice none 0 0];rw [World.size_alloc] at X1
 have hE:=enters_of Tryz.func114 (by kernel_rfl) rfl;have D:=pfirst15_any l v _ (hP.below b1) 114 hE #[.pointer (some ⟨w.heap.size,0,none⟩)] (pWr y2 y3) (fun V hV p a n c=>pwr15_any V w.heap.size (y0,y1,y2,y3) (Y1.below hV) p a n c);have HG:Hid (fp (pWr y2 y3) l=wrP l y2 y3):=rfl;rw [HG.out] at D;show Calls _ _ _ _ fun e w'=>FstRes w l (wrP l y2 y3) e w'
 generalize wrP l y2 y3=o at D ⊢;obtain ⟨a,cap,rfl,h1,h2,h3⟩:=hP.len;obtain ⟨nn,hn⟩:∃ n,l.length=n:=⟨_,rfl⟩;rw [hn] at h1 h3 D ⊢;clear hn hP hE HG;go_enter Tryz.func85,Tryz.ntmps85
 go_wp2_with fail
 refine D.mono ?_;rintro e w1 ⟨a1,n1,c1,rfl,b2⟩;have X3:=X1.below b2;have B3:=bel_trans b1 b2;obtain ⟨os,hos⟩:∃ x,o.isSome=x:=⟨_,rfl⟩;obtain ⟨P,hPo⟩:∃ P,gotO l o=P:=⟨_,rfl⟩;have HPo:=Lib.hid hPo;rw [hPo,hos];clear hPo;obtain ⟨p0,⟨x0,x1,x2,x3⟩,q⟩:=P;have y0':=X3.cell 0 _ rfl;have y1':=X3.cell 1 _ rfl;have y2':=X3.cell 2 _ rfl;have y3':=X3.cell 3 _ rfl;have y4':=X3.cell 4 _ rfl;have y5':=X3.cell 5 _ rfl;have f0:=X3.frozen 0;have f1:=X3.frozen 1;have f2:=X3.frozen 2;have f3:=X3.frozen 3;have f4:=X3.frozen 4;have f5:=X3.frozen 5;have SP:=Lib.hid (SBox.putL [.int .i64 p0,.int .i64 x0,.int .i64 x1,.string ⟨x2.toArray⟩,.string ⟨x3.toArray⟩,.slice a1 n1 c1] [] [.int .i64 0,.int .i64 0,.int .i64 0,.string ⟨#[]⟩,.string ⟨#[]⟩,.slice none 0 0] _ rfl X3)
 have K1:=kept_putL (B:=w.heap.size+1) [.int .i64 p0,.int .i64 x0,.int .i64 x1,.string ⟨x2.toArray⟩,.string ⟨x3.toArray⟩,.slice a1 n1 c1] 0 w1;have BP:=B3.grown K1 B3.size (fun q h9=>by cases h9;omega);have HR:Hid (FstRes w l o (.returned (.tuple #[.agg #[.int .i64 p0,.int .i64 x0,.int .i64 x1,.string ⟨x2.toArray⟩,.string ⟨x3.toArray⟩,.slice a1 n1 c1],.bool os])) _):=⟨a1,n1,c1,by rw [HPo.out,hos],BP⟩;clear X1 Y0 Y1 b0 b1 b2 D HPo hos;go_wp2_with fail
 exact bodyPost_ret (v:=.tuple #[.agg #[.int .i64 p0,.int .i64 x0,.int .i64 x1,.string ⟨x2.toArray⟩,.string ⟨x3.toArray⟩,.slice a1 n1 c1],.bool os]) (results_row_tmp Tryz.results85 _ _ (w.heap.size+1) 55 _ (0,0) _ rfl SP.out Tryz.underlying55 rfl size_pf15) rfl HR.out
end Go.Proofs.YthamoeekiglphaaGreatDoor
namespace Go.Proofs.YthamoeekiglphaaGreatDoor
set_option maxRecDepth 100000
open Go.RowKit
set_option linter.unusedVariables false
section
variable {P:Program} {md:Region.Mode} {ops:Array Oper} {Q:Exit→Act→World→Prop}
theorem fork2 {C:World→Prop} {d i j:Nat} {o1 o2:Oper} {f:Nat} {listed:Array Bool} {a:Act} {w:World} (hr:Region.ready md ops listed=[i,j]) (hdl:listed.getD d false=false) (hC:C w) (h1:ops[i]?=some o1) (h2:ops[j]?=some o2)
 (k1:∀ K:Act→World→Prop,(∀ a w,wpAnyC C d P md ops Q f (listed.setIfInBounds i true) a w→K a w)→wpList P ops (Exit.then K Q) [o1] a w)
 (k2:∀ K:Act→World→Prop,(∀ a w,wpAnyC C d P md ops Q f (listed.setIfInBounds j true) a w→K a w)→wpList P ops (Exit.then K Q) [o2] a w):wpAnyC C d P md ops Q (f+1) listed a w:=by
 refine .inr ⟨hdl,hC,fun h0=>(by rw [hr] at h0;cases h0),fun x hx=>?_⟩;rw [hr] at hx;have hx':x=i∨x=j:=by simpa using hx
 rcases hx' with rfl | rfl
 ·exact wpOp_of_list h1 (k1 _ fun _ _ h=>h)
 ·exact wpOp_of_list h2 (k2 _ fun _ _ h=>h)
theorem fork3 {C:World→Prop} {d i j k:Nat} {o1 o2 o3:Oper} {f:Nat} {listed:Array Bool} {a:Act} {w:World} (hr:Region.ready md ops listed=[i,j,k]) (hdl:listed.getD d false=false) (hC:C w) (h1:ops[i]?=some o1) (h2:ops[j]?=some o2) (h3:ops[k]?=some o3)
 (k1:∀ K:Act→World→Prop,(∀ a w,wpAnyC C d P md ops Q f (listed.setIfInBounds i true) a w→K a w)→wpList P ops (Exit.then K Q) [o1] a w)
 (k2:∀ K:Act→World→Prop,(∀ a w,wpAnyC C d P md ops Q f (listed.setIfInBounds j true) a w→K a w)→wpList P ops (Exit.then K Q) [o2] a w)
 (k3:∀ K:Act→World→Prop,(∀ a w,wpAnyC C d P md ops Q f (listed.setIfInBounds k true) a w→K a w)→wpList P ops (Exit.then K Q) [o3] a w):wpAnyC C d P md ops Q (f+1) listed a w:=by
 refine .inr ⟨hdl,hC,fun h0=>(by rw [hr] at h0;cases h0),fun x hx=>?_⟩;rw [hr] at hx;have hx':x=i∨x=j∨x=k:=by simpa using hx
 rcases hx' with rfl | rfl | rfl
 ·exact wpOp_of_list h1 (k1 _ fun _ _ h=>h)
 ·exact wpOp_of_list h2 (k2 _ fun _ _ h=>h)
 ·exact wpOp_of_list h3 (k3 _ fun _ _ h=>h)
end
abbrev zE15:Array Value:=#[.int .i64 0,.int .i64 0,.string ⟨#[]⟩,.string ⟨#[]⟩]
structure TwoS (w W:World) (t3:Nat) (c3:Array Value) (o5 o6:Option Nat):Prop where
 bel:Below w.heap.size w W
 bx:SBox W w.heap.size t3 c3
 x5:∀ b,o5=some b→SBox W b 53 zE15∧w.heap.size < b
 x6:∀ b,o6=some b→SBox W b 53 zE15∧w.heap.size < b
 ne:∀ b c,o5=some b→o6=some c→b≠c
section
variable {w W W':World} {t3:Nat} {c3:Array Value} {o5 o6:Option Nat}
theorem TwoS.below (h:TwoS w W t3 c3 o5 o6) (hb:Below W.heap.size W W'):TwoS w W' t3 c3 o5 o6 :=
 ⟨bel_trans h.bel hb,h.bx.below hb,fun b e=>⟨(h.x5 b e).1.below hb,(h.x5 b e).2⟩,fun b e=>⟨(h.x6 b e).1.below hb,(h.x6 b e).2⟩,h.ne⟩
theorem TwoS.alloc5 (h:TwoS w W t3 c3 none o6):TwoS w (W.alloc (.cells zE15 53)) t3 c3 (some W.heap.size) o6 :=
 ⟨h.bel.alloc h.bel.size _,h.bx.alloc _,fun b e=>by cases e;exact ⟨SBox.new W _ _,h.bx.lt⟩,fun b e=>⟨(h.x6 b e).1.alloc _,(h.x6 b e).2⟩,fun b c e1 e2=>by cases e1;exact fun e=>absurd (h.x6 c e2).1.lt (by omega)⟩
theorem TwoS.alloc6 (h:TwoS w W t3 c3 o5 none):TwoS w (W.alloc (.cells zE15 53)) t3 c3 o5 (some W.heap.size) :=
 ⟨h.bel.alloc h.bel.size _,h.bx.alloc _,fun b e=>⟨(h.x5 b e).1.alloc _,(h.x5 b e).2⟩,fun b e=>by cases e;exact ⟨SBox.new W _ _,h.bx.lt⟩,fun b c e1 e2=>by cases e2;exact fun e=>absurd (h.x5 b e1).1.lt (by omega)⟩
end
theorem SBox.kept15 {W W':World} {g pb t:Nat} {cs:Array Value} (h:SBox W g t cs) (hg:W.grownBy W' (some pb)) (hne:g≠pb):SBox W' g t cs:=(hg.block g h.lt (fun e=>hne (by cases e;rfl))).trans h
structure TwoE (w W:World) (t3:Nat) (c3:Array Value) (b c:Nat) (x y:Ev):Prop where
 bel:Below w.heap.size w W
 bx:SBox W w.heap.size t3 c3
 x5:SBox W b 53 (evA15 x)
 x6:SBox W c 53 (evA15 y)
theorem TwoE.below {w W W':World} {t3:Nat} {c3:Array Value} {b c:Nat} {x y:Ev} (h:TwoE w W t3 c3 b c x y) (hb:Below W.heap.size W W'):TwoE w W' t3 c3 b c x y:=⟨bel_trans h.bel hb,h.bx.below hb,h.x5.below hb,h.x6.below hb⟩
structure OneS (w W:World) (t3:Nat) (c3:Array Value) (b c:Nat) (x:Ev):Prop where
 bel:Below w.heap.size w W
 bx:SBox W w.heap.size t3 c3
 x5:SBox W b 53 (evA15 x)
 x6:SBox W c 53 zE15
 lt:w.heap.size < c
 ne:c≠b
theorem TwoS.put {w W:World} {t3:Nat} {c3:Array Value} {b c:Nat} (h:TwoS w W t3 c3 (some b) (some c)) (x:Ev) :
 OneS w (putL W b 0 [.int .i64 x.1,.int .i64 x.2.1,.string ⟨x.2.2.1.toArray⟩,.string ⟨x.2.2.2.toArray⟩]) t3 c3 b c x:=by
 obtain ⟨g1,g2⟩:=h.x5 b rfl;obtain ⟨g3,g4⟩:=h.x6 c rfl;have K:=kept_putL (B:=b) [.int .i64 x.1,.int .i64 x.2.1,.string ⟨x.2.2.1.toArray⟩,.string ⟨x.2.2.2.toArray⟩] 0 W;exact ⟨h.bel.grown K h.bel.size (fun q h9=>by cases h9;omega),h.bx.kept15 K (by omega),SBox.putL [.int .i64 x.1,.int .i64 x.2.1,.string ⟨x.2.2.1.toArray⟩,.string ⟨x.2.2.2.toArray⟩] [] [.int .i64 0,.int .i64 0,.string ⟨#[]⟩,.string ⟨#[]⟩] W rfl g1,g3.kept15 K (fun e=>h.ne b c rfl rfl e.symm),g4,fun e=>h.ne b c rfl rfl e.symm⟩
theorem OneS.put {w W:World} {t3:Nat} {c3:Array Value} {b c:Nat} {x:Ev} (h:OneS w W t3 c3 b c x) (y:Ev) :
 TwoE w (putL W c 0 [.int .i64 y.1,.int .i64 y.2.1,.string ⟨y.2.2.1.toArray⟩,.string ⟨y.2.2.2.toArray⟩]) t3 c3 b c x y:=by
 have hl:=h.lt;have K:=kept_putL (B:=c) [.int .i64 y.1,.int .i64 y.2.1,.string ⟨y.2.2.1.toArray⟩,.string ⟨y.2.2.2.toArray⟩] 0 W;exact ⟨h.bel.grown K h.bel.size (fun q h9=>by cases h9;omega),h.bx.kept15 K (by omega),h.x5.kept15 K (fun e=>h.ne e.symm),SBox.putL [.int .i64 y.1,.int .i64 y.2.1,.string ⟨y.2.2.1.toArray⟩,.string ⟨y.2.2.2.toArray⟩] [] [.int .i64 0,.int .i64 0,.string ⟨#[]⟩,.string ⟨#[]⟩] W rfl h.x6⟩
end Go.Proofs.YthamoeekiglphaaGreatDoor
namespace Go.Proofs.YthamoeekiglphaaGreatDoor
set_option maxRecDepth 100000
set_option linter.unusedVariables false
theorem hfGo_pow (s n:Nat) (hn:n≤2 ^ (s+1)):∀ (f j:Nat),j≤s→hfGo f (2 ^ j) n≤2 ^ s:=by
 intro f
 induction f with
 | zero=>intro j hj;rw [hfGo];exact Nat.pow_le_pow_right (by decide) hj
 | succ f ih =>
   intro j hj;rw [hfGo]
   by_cases h:2 ^ j+2 ^ j < n
   ·rw [if_pos h,show 2 ^ j+2 ^ j=2 ^ (j+1) by rw [Nat.pow_succ];omega]
    refine ih (j+1) ?_;have h1:2 ^ (j+1) < 2 ^ (s+1):=by rw [Nat.pow_succ];omega
    have:=(Nat.pow_lt_pow_iff_right (by decide:1 < 2)).1 h1;omega
   ·rw [if_neg h];exact Nat.pow_le_pow_right (by decide) hj
theorem hf_le (s n:Nat) (hn:n≤2 ^ (s+1)):hf n≤2 ^ s:=hfGo_pow s n hn n 0 (Nat.zero_le _)
theorem pathL_sides (sm:List UInt8→List UInt8):∀ (s:Nat) (l:List (List UInt8)) (i:Nat),l.length≤2 ^ s→(pathL sm l i).length≤s
 | 0,l,i,h=>by rw [pathL_one sm l i (by simpa using h)];simp
 | s+1,l,i,h=>by
   by_cases h1:l.length≤1
   ·rw [pathL_one sm l i h1];simp
   ·have hle:=hf_le s l.length h
    have hge:=hf_ge l.length
    by_cases hk:i < hf l.length
    ·rw [pathL_left sm l i (by omega) hk,List.length_append]
     have:=pathL_sides sm s (l.take (hf l.length)) i (by rw [List.length_take];omega);simp only [List.length_cons,List.length_nil];omega
    ·rw [pathL_right sm l i (by omega) hk,List.length_append]
     have:=pathL_sides sm s (l.drop (hf l.length)) (i - hf l.length) (by rw [List.length_drop];omega);simp only [List.length_cons,List.length_nil];omega
end Go.Proofs.YthamoeekiglphaaGreatDoor
namespace Go.Proofs.YthamoeekiglphaaGreatDoor
set_option maxRecDepth 100000
set_option linter.unusedVariables false
section
variable (sm:List UInt8→List UInt8)
theorem rootI_inj (n m:Nat) (hn:n≤4096) (hm:m≤4096) (c d:List UInt8) (h:rootI n c=rootI m d):n=m∧c=d:=by
 have e:Lm.numL n++c=Lm.numL m++d:=(List.cons.inj h).2;have t1:=Lm.take_num n (by omega) c;have t2:=Lm.take_num m (by omega) d;rw [e,t2] at t1;simp only [Prod.mk.injEq] at t1;exact ⟨t1.1.symm,t1.2.1.symm⟩
def Link (x y:List (List UInt8)):Prop:=x.length=y.length∧∀ k,k+1 < x.length→x.getD (k+1) []=y.getD (k+1) []→sm (x.getD k [])=sm (y.getD k [])
theorem last_getD (x:List (List UInt8)):x.getLastD []=x.getD (x.length - 1) []:=by
 rw [List.getLastD_eq_getLast?,List.getLast?_eq_getElem?];rfl
theorem getD_left (x:List (List UInt8)) (t:List UInt8) (k:Nat) (h:k < x.length):(x++[t]).getD k []=x.getD k []:=by
 simp [List.getD,List.getElem?_append_left h]
theorem getD_end (x:List (List UInt8)) (t:List UInt8):(x++[t]).getD x.length []=t:=by simp [List.getD]
theorem Link.snoc {x y:List (List UInt8)} (h:Link sm x y) (h0:0 < x.length) (s t:List UInt8) (hst:s=t→sm (x.getLastD [])=sm (y.getLastD [])):Link sm (x++[s]) (y++[t]):=by
 obtain ⟨h1,h2⟩:=h;refine ⟨by simp [h1],fun k hk he=>?_⟩;have hk':k < x.length:=by simp at hk;exact hk
 rw [getD_left x s k hk',getD_left y t k (by omega)]
 by_cases hl:k+1 < x.length
 ·rw [getD_left x s _ hl,getD_left y t _ (by omega)] at he
  exact h2 k hl he
 ·have hke:k+1=x.length:=by omega
  rw [hke,getD_end,h1,getD_end] at he;have:=hst he;rw [last_getD,last_getD,← h1,← hke] at this;exact this
theorem inL_link (h32:∀ s,(sm s).length=32):∀ (m n i:Nat) (a b:List UInt8) (p q x y:List (List UInt8)),n=m→(∀ s∈p,s.length=32)→(∀ s∈q,s.length=32)→inL sm n i a p=some x→inL sm n i b q=some y →
 Link sm x y∧0 < x.length∧x.getD 0 []=leafI a∧y.getD 0 []=leafI b:=by
 intro m
 induction m using Nat.strongRecOn with
 | _ m ih =>
   intro n i a b p q x y hn hp hq hx hy
   by_cases h1:n≤1
   ·rw [inL_one sm _ _ _ _ h1] at hx hy
    by_cases hp0:p.length=0
    ·by_cases hq0:q.length=0
     ·rw [if_pos hp0] at hx
      rw [if_pos hq0] at hy;cases hx;cases hy;exact ⟨⟨rfl,fun k hk=>by simp at hk⟩,by simp,rfl,rfl⟩
     ·rw [if_neg hq0] at hy;cases hy
    ·rw [if_neg hp0] at hx;cases hx
   ·by_cases hp0:p.length=0
    ·rw [inL_none sm _ _ _ _ (by omega) hp0] at hx;cases hx
    ·by_cases hq0:q.length=0
     ·rw [inL_none sm _ _ _ _ (by omega) hq0] at hy;cases hy
     ·have hpl:(p.getLastD []).length=32:=by
       rw [last_getD];have hk:p.length - 1 < p.length:=by omega
       rw [List.getD_eq_getElem?_getD,List.getElem?_eq_getElem hk];exact hp _ (List.getElem_mem hk)
      have hql:(q.getLastD []).length=32:=by
       rw [last_getD];have hk:q.length - 1 < q.length:=by omega
       rw [List.getD_eq_getElem?_getD,List.getElem?_eq_getElem hk];exact hq _ (List.getElem_mem hk)
      have hp':∀ s∈p.dropLast,s.length=32:=fun s hs=>hp s (List.dropLast_subset _ hs)
      have hq':∀ s∈q.dropLast,s.length=32:=fun s hs=>hq s (List.dropLast_subset _ hs)
      have hlt:=hf_lt n (by omega);have hps:=hf_pos n
      by_cases hi:i < hf n
      ·rw [inL_left sm _ _ _ _ (by omega) hp0 hi,Option.map_eq_some_iff] at hx
       rw [inL_left sm _ _ _ _ (by omega) hq0 hi,Option.map_eq_some_iff] at hy;obtain ⟨x',hx',rfl⟩:=hx;obtain ⟨y',hy',rfl⟩:=hy;obtain ⟨hL,h0,e1,e2⟩:=ih (hf n) (by omega) (hf n) i a b p.dropLast q.dropLast x' y' rfl hp' hq' hx' hy';refine ⟨hL.snoc sm h0 _ _ (fun he=>(nodeI_inj (by rw [h32,h32]) he).1),by simp,?_,?_⟩
       ·rw [getD_left _ _ _ h0];exact e1
       ·rw [getD_left _ _ _ (by rw [← hL.1];exact h0)];exact e2
      ·rw [inL_right sm _ _ _ _ (by omega) hp0 hi,Option.map_eq_some_iff] at hx
       rw [inL_right sm _ _ _ _ (by omega) hq0 hi,Option.map_eq_some_iff] at hy;obtain ⟨x',hx',rfl⟩:=hx;obtain ⟨y',hy',rfl⟩:=hy;obtain ⟨hL,h0,e1,e2⟩:=ih (n - hf n) (by omega) (n - hf n) (i - hf n) a b p.dropLast q.dropLast x' y' rfl hp' hq' hx' hy';refine ⟨hL.snoc sm h0 _ _ (fun he=>(nodeI_inj (by rw [hpl,hql]) he).2),by simp,?_,?_⟩
       ·rw [getD_left _ _ _ h0];exact e1
       ·rw [getD_left _ _ _ (by rw [← hL.1];exact h0)];exact e2
theorem back_some {x y:List (List UInt8)} (h:Link sm x y) (hl:sm (x.getLastD [])=sm (y.getLastD [])):∀ k,k≤x.length→(∃ j,j < k∧x.getD j []≠y.getD j [])→(k < x.length→x.getD k []=y.getD k [])→∃ z,backL sm x y k=some z
 | 0,_,⟨j,hj,_⟩,_=>by omega
 | k+1,hk,⟨j,hj,hne⟩,he=>by
   rw [backL]
   by_cases hc:x.getD k []≠y.getD k []
   ·rw [if_pos hc]
    have hs:sm (x.getD k [])=sm (y.getD k []):=by
     by_cases hkl:k+1 < x.length
     ·exact h.2 k hkl (he hkl)
     ·rw [last_getD,last_getD,← h.1,show x.length - 1=k by omega] at hl
      exact hl
    rw [unL_some sm _ _ hc hs];exact ⟨_,rfl⟩
   ·rw [if_neg hc]
    refine back_some h hl k (by omega) ⟨j,?_,hne⟩ (fun _=>Classical.not_not.1 hc);rcases Nat.lt_or_ge j k with h' | h'
    ·exact h'
    ·have:j=k:=by omega
     subst this;exact absurd hne hc
theorem climb_ok (n i:Int) (s:List UInt8) (p:List (List UInt8)) (h:(climbL sm n i s p).2=0):¬ (n < 1∨4096 < n∨i < 0∨n≤i)∧(∀ x∈p,x.length=32)∧∃ l,inL sm n.toNat i.toNat s p=some l∧climbL sm n i s p=(l++[rootI n.toNat (sm (l.getLastD []))],0):=by
 unfold climbL at h ⊢
 by_cases h1:n < 1∨4096 < n∨i < 0∨n≤i
 ·rw [if_pos h1] at h;cases h
 ·rw [if_neg h1] at h ⊢
  by_cases h2:∃ x∈p,x.length≠32
  ·rw [if_pos h2] at h;cases h
  ·rw [if_neg h2] at h ⊢
   cases hm:inL sm n.toNat i.toNat s p with
   | none=>rw [hm] at h;cases h
   | some l=>exact ⟨h1,fun x hx=>Classical.not_not.1 fun hn=>h2 ⟨x,hx,hn⟩,l,rfl,rfl⟩
theorem check_ok (root:List UInt8) (n i:Int) (s:List UInt8) (p:List (List UInt8)) (h:checkL sm root n i s p=0):(climbL sm n i s p).2=0∧sm ((climbL sm n i s p).1.getLastD [])=root:=by
 unfold checkL at h
 by_cases h1:(climbL sm n i s p).2≠0
 ·rw [if_pos h1] at h;exact absurd h h1
 ·rw [if_neg h1] at h
  by_cases h2:sm ((climbL sm n i s p).1.getLastD [])≠root
  ·rw [if_pos h2] at h;cases h
  ·exact ⟨Classical.not_not.1 h1,Classical.not_not.1 h2⟩
theorem clash_some (h32:∀ s,(sm s).length=32) (root:List UInt8) (n i:Int) (a:List UInt8) (p:List (List UInt8)) (b:List UInt8) (q:List (List UInt8)) (hne:a≠b) (h1:checkL sm root n i a p=0) (h2:checkL sm root n i b q=0):∃ z,clashL sm n i a p b q=some z:=by
 obtain ⟨c1,r1⟩:=check_ok sm _ _ _ _ _ h1;obtain ⟨c2,r2⟩:=check_ok sm _ _ _ _ _ h2;obtain ⟨hb,hp,x,hx,ex⟩:=climb_ok sm _ _ _ _ c1;obtain ⟨_,hq,y,hy,ey⟩:=climb_ok sm _ _ _ _ c2;obtain ⟨hL,h0,e1,e2⟩:=inL_link sm h32 n.toNat n.toNat i.toNat a b p q x y rfl hp hq hx hy;unfold clashL;rw [if_neg (by rw [c1,c2];simp),ex,ey];rw [ex] at r1;rw [ey] at r2;have hL2:=hL.snoc sm h0 (rootI n.toNat (sm (x.getLastD []))) (rootI n.toNat (sm (y.getLastD []))) (fun he=>(rootI_inj _ _ (by omega) (by omega) _ _ he).2);refine back_some sm hL2 (r1.trans r2.symm) _ (Nat.le_refl _) ⟨0,by simp,?_⟩ (fun h=>absurd h (Nat.lt_irrefl _));rw [getD_left _ _ _ h0,getD_left _ _ _ (by rw [← hL.1];exact h0),e1,e2];intro he;exact hne (List.cons.inj he).2
end
end Go.Proofs.YthamoeekiglphaaGreatDoor
namespace Go.Proofs.YthamoeekiglphaaGreatDoor
set_option maxRecDepth 100000
set_option linter.unusedVariables false
theorem prov_ok (sm:List UInt8→List UInt8) (c:Ct) (root:List UInt8):provL sm c root=0↔mayC c∧c.2.2.2.1=root∧pfU15 sm root c.2.2.2.2.1 c.2.2.2.2.2.2 c.2.2.2.2.2.2.length=true:=by
 unfold provL
 by_cases h1:mayC c
 ·rw [if_neg (fun h=>h h1)]
  by_cases h2:c.2.2.2.1=root
  ·rw [if_neg (fun h=>h h2)]
   by_cases h3:pfU15 sm root c.2.2.2.2.1 c.2.2.2.2.2.2 c.2.2.2.2.2.2.length=true
   ·rw [if_pos h3];exact ⟨fun _=>⟨h1,h2,h3⟩,fun _=>rfl⟩
   ·rw [if_neg h3];exact ⟨fun h=>absurd h (by decide),fun h=>absurd h.2.2 h3⟩
  ·rw [if_pos h2];exact ⟨fun h=>absurd h (by decide),fun h=>absurd h.2.1 h2⟩
 ·rw [if_pos h1];exact ⟨fun h=>absurd h (by decide),fun h=>absurd h.1 h1⟩
theorem lean_ok (sm:List UInt8→List UInt8) (c:Ct) (root:List UInt8) (h:leanL sm c root=0):provL sm c root=0∧c.2.2.2.2.2.1.2.1=false ∧
 ((c.2.2.2.2.2.1.2.2.2.1.1≠0∧badB c.2.2.2.2.2.2 c.2.2.2.2.2.1.2.2.2.1=true)∨ringB c.2.2.2.2.2.2 c.2.2.2.2.2.1.1 c.2.2.2.2.2.1.2.2.2.2=true):=by
 unfold leanL at h
 by_cases h1:provL sm c root≠0
 ·rw [if_pos h1] at h;exact absurd h h1
 ·rw [if_neg h1] at h
  refine ⟨Classical.not_not.1 h1,?_⟩
  by_cases h2:c.2.2.2.2.2.1.2.1=true
  ·rw [if_pos h2] at h;cases h
  ·rw [if_neg h2] at h
   refine ⟨Bool.eq_false_iff.2 h2,?_⟩
   by_cases h3:c.2.2.2.2.2.1.2.2.1≠[]
   ·rw [if_pos h3] at h;cases h
   ·rw [if_neg h3] at h
    by_cases h4:c.2.2.2.2.2.1.2.2.2.1.1≠0
    ·rw [if_pos h4] at h
     by_cases h5:c.2.2.2.2.2.1.2.2.2.2=[]∧badB c.2.2.2.2.2.2 c.2.2.2.2.2.1.2.2.2.1=true
     ·exact .inl ⟨h4,h5.2⟩
     ·rw [if_neg h5] at h;cases h
    ·rw [if_neg h4] at h
     by_cases h5:ringB c.2.2.2.2.2.2 c.2.2.2.2.2.1.1 c.2.2.2.2.2.1.2.2.2.2=true
     ·exact .inr h5
     ·rw [if_neg h5] at h;cases h
theorem ring_rel (l:List Pf) (level:Int) (r:List Ed) (h:ringB l level r=true):cyc level r∧∀ e∈r,edgeB l e=true:=by
 unfold ringB at h;rw [Bool.and_eq_true,decide_eq_true_eq] at h;obtain ⟨h0,hr⟩:=h
 have key:∀ i (hi:i < r.length),edgeB l r[i]=true∧relE level r[i] (nxtE r i):=fun i hi=>by
  have:=all_at _ hi hr;unfold rgK at this;rw [show r.getD i (0,0,0,0,0)=r[i] by rw [List.getD_eq_getElem?_getD,List.getElem?_eq_getElem hi];rfl] at this;simp only [Bool.and_eq_true,decide_eq_true_eq,Bool.not_eq_true',Bool.and_eq_false_iff,decide_eq_false_iff_not] at this;refine ⟨this.1.1,this.1.2,fun hh=>?_⟩;rcases this.2 with (h' | h') | h'
  ·exact h' hh.1
  ·exact h' hh.2.1
  ·exact h' hh.2.2
 refine ⟨(cyc_iff level r).2 ⟨Nat.pos_of_ne_zero (fun e=>h0 (List.length_eq_zero_iff.1 e)),fun i hi=>(key i hi).2⟩,fun e he=>?_⟩;obtain ⟨i,hi,rfl⟩:=List.getElem_of_mem he;exact (key i hi).1
theorem sound15 (sm:List UInt8→List UInt8) (h:List Ev) (hw:WF h) (c:Ct) (root:List UInt8) (hc:leanL sm c root=0) (ht:∀ p∈c.2.2.2.2.2.2,∃ i:Nat,p.1=(i:Int)∧i < h.length∧p.2.1=ev h i):¬ goodL h c.2.2.2.2.2.1.1:=by
 obtain ⟨h1,h2,h3⟩:=lean_ok sm c root hc;have hm:=((prov_ok sm c root).1 h1).1
 have hl:c.2.2.2.2.2.1.1=1∨c.2.2.2.2.2.1.1=2:=by
  have:=hm.2.1.1.1;omega
 have htr:trueOf h (c.2.2.2.2.2.2.map peOf):=fun p hp=>by
  obtain ⟨q,hq,rfl⟩:=List.mem_map.1 hp;exact ht q hq
 intro hg;rcases h3 with ⟨_,hb⟩ | hr
 ·exact bad_tainted hw htr _ (badB_shows _ _ hb) hg.1
 ·obtain ⟨r1,r2⟩:=ring_rel _ _ _ hr
  obtain ⟨n,a,n1,n2⟩:=round_ring hw hg.1 _ hl _ r1 (fun x hx=>edge_holds htr (wf_endsOnce hw) (wf_valsOnce hw) x (edgeB_shows _ x (r2 x hx)));exact hg.2 n a n1 n2
theorem one15 (sm:List UInt8→List UInt8) (h32:∀ s,(sm s).length=32) (l:List (List UInt8)) (hl:l.length≤256) (n i:Int) (s:List UInt8) (p:List (List UInt8)) (hc:checkL sm (rootL sm l) n i s p=0) :
 (climbL sm n i s p).2=0∧0 < (climbL sm n i s p).1.length∧sm ((climbL sm n i s p).1.getLastD [])=sm (rootI l.length (crownL sm l)) ∧
 ((climbL sm n i s p).1.getLastD []=rootI l.length (crownL sm l)→n=(l.length:Int)∧0≤i∧i < (l.length:Int) ∧
   (∀ (hi:i.toNat < l.length),s≠l[i.toNat]→∃ x y,clashL sm n i s p l[i.toNat] (pathL sm l i.toNat)=some (x,y)∧x≠y∧sm x=sm y)):=by
 obtain ⟨c1,c2⟩:=check_ok sm _ n i s p hc;obtain ⟨hb,hp,x,hx,ex⟩:=climb_ok sm n i s p c1;refine ⟨c1,by rw [ex];simp,c2,fun htop=>?_⟩;rw [ex,List.getLastD_concat] at htop;obtain ⟨e1,e2⟩:=rootI_inj _ _ (by omega) (by omega) _ _ htop;have hn:n=(l.length:Int):=by omega
 refine ⟨hn,by omega,by omega,fun hi hne=>?_⟩;have hk:=check_path sm h32 l (by omega) i.toNat hi;have hcast:((i.toNat:Nat):Int)=i:=by omega
 rw [hcast,← hn] at hk;obtain ⟨⟨z1,z2⟩,hz⟩:=clash_some sm h32 _ n i s p _ _ hne hc hk;exact ⟨z1,z2,hz,clashL_honest sm _ _ _ _ _ _ z1 z2 hz⟩
theorem pfU_at (sm:List UInt8→List UInt8) (root:List UInt8) (n:Int) (l:List Pf) (m k:Nat) (hk:k < m) (h:pfU15 sm root n l m=true):checkL sm root n (pf15 l k).1 (bytE (pf15 l k).2.1) (pf15 l k).2.2=0:=by
 have:=all_at _ hk h;unfold pfK15 at this;rw [Bool.and_eq_true,decide_eq_true_eq] at this;exact this.2
theorem last_get (x:List (List UInt8)) (h:0 < x.length):x.getLastD []=x[x.length - 1]'(by omega):=by
 rw [last_getD,List.getD_eq_getElem?_getD,List.getElem?_eq_getElem (by omega)];rfl
theorem last_mem (x:List (List UInt8)) (h:0 < x.length):x.getLastD []∈x:=by
 rw [last_get x h];exact List.getElem_mem _
theorem inL_facts (sm:List UInt8→List UInt8) (h32:∀ s,(sm s).length=32):∀ (m n i:Nat) (s:List UInt8) (p L:List (List UInt8)),n=m→1≤n→(∀ x∈p,x.length=32)→inL sm n i s p=some L →
 L.length≤n∧0 < L.length∧∀ t∈L,t.length≤s.length+65:=by
 intro m
 induction m using Nat.strongRecOn with
 | _ m ih =>
   intro n i s p L hn h1n hp h
   by_cases h1:n≤1
   ·rw [inL_one sm _ _ _ _ h1] at h
    by_cases hp0:p.length=0
    ·rw [if_pos hp0] at h
     cases h;exact ⟨by simp;omega,by simp,fun t ht=>by simp at ht;subst ht;simp [leafI]⟩
    ·rw [if_neg hp0] at h;cases h
   ·by_cases hp0:p.length=0
    ·rw [inL_none sm _ _ _ _ (by omega) hp0] at h;cases h
    ·have hlt:=hf_lt n (by omega)
     have hps:=hf_pos n;have hl:=hp _ (last_mem p (by omega));have hp':∀ s∈p.dropLast,s.length=32:=fun s hs=>hp s (List.dropLast_subset _ hs)
     by_cases hi:i < hf n
     ·rw [inL_left sm _ _ _ _ (by omega) hp0 hi,Option.map_eq_some_iff] at h
      obtain ⟨L',hL',rfl⟩:=h;obtain ⟨e1,e2,e3⟩:=ih (hf n) (by omega) (hf n) i s p.dropLast L' rfl hps hp' hL';refine ⟨by rw [List.length_append];simp only [List.length_cons,List.length_nil];omega,by simp,fun t ht=>?_⟩;rcases List.mem_append.1 ht with h | h
      ·exact e3 t h
      ·rw [List.mem_singleton] at h;rw [h];unfold nodeI;rw [List.length_cons,List.length_append,h32,hl];omega
     ·rw [inL_right sm _ _ _ _ (by omega) hp0 hi,Option.map_eq_some_iff] at h
      obtain ⟨L',hL',rfl⟩:=h;obtain ⟨e1,e2,e3⟩:=ih (n - hf n) (by omega) (n - hf n) (i - hf n) s p.dropLast L' rfl (by omega) hp' hL';refine ⟨by rw [List.length_append];simp only [List.length_cons,List.length_nil];omega,by simp,fun t ht=>?_⟩;rcases List.mem_append.1 ht with h | h
      ·exact e3 t h
      ·rw [List.mem_singleton] at h;rw [h];unfold nodeI;rw [List.length_cons,List.length_append,h32,hl];omega
end Go.Proofs.YthamoeekiglphaaGreatDoor
namespace Go.Proofs.YthamoeekiglphaaGreatDoor
set_option maxRecDepth 100000
open Go.RowKit
set_option linter.unusedVariables false
section
variable {P:Program} {ops:Array Oper} {md:Region.Mode} {Q:Exit→Act→World→Prop}
def chainW (md:Region.Mode) (ops:Array Oper):Nat→List Nat→Bool
 | _,[]=>true
 | i,m::ms=>Region.waitsFor md ops m i&&chainW md ops m ms
def unlB (listed:Array Bool) (ms:List Nat):Bool:=ms.all fun m=>listed.getD m false==false
theorem unlB_iff (listed:Array Bool) (ms:List Nat):unlB listed ms=true↔∀ m∈ms,listed.getD m false=false:=by
 unfold unlB;rw [List.all_eq_true];exact ⟨fun h m hm=>by simpa using h m hm,fun h m hm=>by simpa using h m hm⟩
theorem chain_not (listed:Array Bool) (j:Nat) (hj:j∈Region.ready md ops listed):∀ (ms:List Nat) (i:Nat),listed.getD i false=false→(∀ m∈ms,listed.getD m false=false)→chainW md ops i ms=true→j ∉ ms
 | [],_,_,_,_=>by simp
 | m::ms,i,hi,hu,hc=>by
   rw [chainW,Bool.and_eq_true] at hc;intro hm;rcases List.mem_cons.1 hm with e | e
   ·subst e
    obtain ⟨o',ho',e,he,hb,hon⟩:=Region.waitsFor_spec hc.1;obtain ⟨_,oj,hoj,hall⟩:=mem_ready.1 hj;obtain rfl:o'=oj:=Option.some.inj (ho'.symm.trans hoj);have h4:=hall e he hb;rw [hon,hi] at h4;cases h4
   ·exact chain_not listed j hj ms m (hu m (List.mem_cons_self ..)) (fun x hx=>hu x (List.mem_cons_of_mem _ hx)) hc.2 e
theorem firstCC {C:World→Prop} {d i:Nat} {ms:List Nat} {oi:Oper} {v:Value} (hi:ops[i]?=some oi) (hsel:∀ (j:Nat) (o:Oper) cs b,ops[j]?=some o→o.op≠.select cs b)
 (hc:chainW md ops i ms=true) (hdm:d∈ms) (hQ:∀ c a w,Q (.panic c) (a.put oi.dst v) w→Q (.panic c) a w) :
 ∀ (f:Nat) (listed:Array Bool) (a:Act) (w:World),(∀ m∈ms,listed.getD m false=false) →
   (∀ j oj,ops[j]?=some oj→j≠i→listed.getD j true=false→(∀ e∈oj.after,Region.binds md e=true→e.on≠i)→oi.apart ops oj=true) →
   i∈Region.ready md ops listed→YieldsC C P ops oi v a →
   wpAnyC C d P md ops Q f (listed.setIfInBounds i true) (a.put oi.dst v) w→wpAnyC C d P md ops Q (f+1) listed a w:=by
 have hnm:∀ (listed:Array Bool) j,i∈Region.ready md ops listed→(∀ m∈ms,listed.getD m false=false)→j∈Region.ready md ops listed→j ∉ ms:=fun listed j hr hu hj =>
  chain_not listed j hj ms i (getD_both (mem_ready.1 hr).1) hu hc
 intro f
 induction f with
 | zero =>
   intro listed a w hml _ hr hy H;have hdl:=hml d hdm;have hid:i≠d:=fun e=>hnm listed i hr hml hr (by rw [e];exact hdm)
   refine .inr ⟨hdl,H.2 (by rw [getD_set_ne false hid];exact hdl),fun h=>(by rw [h] at hr;cases hr),fun j hj=>?_⟩
   by_cases hji:j=i
   ·subst hji;exact hy.op hi (H.2 (by rw [getD_set_ne false hid];exact hdl)) H
   ·have:=ready_mono hj hji
    rw [H.1.1] at this;cases this
 | succ f ih =>
   intro listed a w hml hfree hr hy H;have hdl:=hml d hdm;have hid:i≠d:=fun e=>hnm listed i hr hml hr (by rw [e];exact hdm)
   rcases H with H | H
   ·rw [getD_set_ne false hid,hdl] at H;cases H.1
   ·obtain ⟨hd1,hC,hn,H⟩:=H
    refine .inr ⟨hdl,hC,fun h=>(by rw [h] at hr;cases hr),fun j hj=>?_⟩
    by_cases hji:j=i
    ·subst hji;exact hy.op hi hC (.inr ⟨hd1,hC,hn,H⟩)
    ·have h1:=H j (ready_mono hj hji)
     obtain ⟨hjun,oj,hoj,hall⟩:=mem_ready.1 hj
     have hnot:∀ e∈oj.after,Region.binds md e=true→e.on≠i:=fun e he hb heq=>by
      have h1:=hall e he hb;rw [heq,getD_both (mem_ready.1 hr).1] at h1;cases h1
     have h2:=wpOp_putC hoj (hfree j oj hoj hji hjun hnot) (fun cs b=>hsel i oi cs b hi) (fun cs b=>hsel j oj cs b hoj) hQ hy h1;have hjm:=hnm listed j hr hml hj;refine wpOp_mono (fun a' w' h3=>ih (listed.setIfInBounds j true) a' w' (fun m hm=>by rw [getD_set_ne false (fun e=>hjm (by rw [e];exact hm))];exact hml m hm) (fun k ok hk hki hku hno=>?_) (ready_mono hr (Ne.symm hji)) h3.1 ?_) h2
     ·refine hfree k ok hk hki ?_ hno
      by_cases hjk:j=k
      ·subst hjk;exact hjun
      ·rw [getD_set_ne true hjk] at hku;exact hku
     ·rw [Array.setIfInBounds_comm _ _ hji]
      exact h3.2
theorem takeCC {C:World→Prop} {d i:Nat} (ms:List Nat) {oi:Oper} {v:Value} {f:Nat} {listed:Array Bool} {a:Act} {w:World} (hi:ops[i]?=some oi)
 (hs:Region.noSelect ops=true) (hf:Region.free md ops listed i=true) (hr:(Region.ready md ops listed).contains i=true) (hc:chainW md ops i ms=true) (hd:ms.contains d=true) (hml:unlB listed ms=true)
 (hQ:∀ c a w,Q (.panic c) (a.put oi.dst v) w→Q (.panic c) a w) (hy:YieldsC C P ops oi v a)
 (h:wpAnyC C d P md ops Q f (listed.setIfInBounds i true) (a.put oi.dst v) w):wpAnyC C d P md ops Q (f+1) listed a w :=
 firstCC hi (Region.noSelect_spec hs) hc (by simpa using hd) hQ f listed a w ((unlB_iff _ _).1 hml) (Region.free_spec hi hf) (by simpa using hr) hy h
end
end Go.Proofs.YthamoeekiglphaaGreatDoor
namespace Go.Proofs.YthamoeekiglphaaGreatDoor
set_option maxRecDepth 100000
open Go.RowKit
set_option linter.unusedVariables false
attribute [local go_sem] ba_size
theorem dec_bne15 (x y:List UInt8):decide (x≠y)=(x != y):=by
 by_cases h:x=y
 ·rw [decide_eq_false (fun hh=>hh h),h];exact (bne_self_eq_false y).symm
 ·rw [decide_eq_true h];exact (bne_iff_ne.2 h).symm
theorem overB_is (l:List Pf) (x:Ev) (t p:Int) (o:Option Nat) (ho:wrP l x.2.2.1 x.2.2.2=o):overB l x t p=((x.2.2.2 != [])&&(o.isSome&&(decide ((gotO l o).1 < p)&&((gotO l o).2.1.2.1==t)))):=by
 unfold overB;rw [ho,dec_bne15];cases o with
 | none=>rfl
 | some k=>rfl
theorem lastB_is (l:List Pf) (x:Ev) (i j:Int) (o:Option Nat) (ho:wrP l x.2.2.1 x.2.2.2=o):lastB l x i j=((x.2.2.2==[]) || (o.isSome&&(((gotO l o).2.1.2.1 != x.2.1) || (decide ((gotO l o).1 < j) || decide ((gotO l o).1 > i))))):=by
 unfold lastB;rw [ho,dec_beq15];cases o with
 | none=>rfl
 | some k =>
   show ((x.2.2.2==[]) || (decide ((pf15 l k).2.1.2.1≠x.2.1) || decide ((pf15 l k).1 < j) || decide (i < (pf15 l k).1)))=((x.2.2.2==[]) || (true&&(((pf15 l k).2.1.2.1 != x.2.1) || (decide ((pf15 l k).1 < j) || decide ((pf15 l k).1 > i)))));rw [show decide ((pf15 l k).2.1.2.1≠x.2.1)=((pf15 l k).2.1.2.1 != x.2.1) by rw [Bool.eq_iff_iff,decide_eq_true_eq,bne_iff_ne]];rw [Bool.true_and,Bool.or_assoc]
theorem cmP_is (l:List Pf) (t:Int):cmP l t=if 0≤comP l t then comP l t else -1:=by
 unfold cmP comP
 by_cases h4:(endP l t).2.1.1=4
 ·by_cases h0:0≤(endP l t).1
  ·rw [if_pos ⟨h4,h0⟩,if_pos h4,if_pos h0]
  ·rw [if_neg (fun h=>h0 h.2),if_pos h4,if_neg h0]
 ·rw [if_neg (fun h=>h4 h.1),if_neg h4];rfl
theorem aheadP_is (l:List Pf) (x:Ev) (tt:Int) (o:Option Nat) (ho:wrP l x.2.2.1 x.2.2.2=o):aheadP l x tt=((x.2.2.2==[]) || (o.isSome&&((cmP l (gotO l o).2.1.2.1 != -1)&&decide (cmP l (gotO l o).2.1.2.1 < tt)))):=by
 unfold aheadP;rw [ho,dec_beq15];cases o with
 | none=>rfl
 | some k =>
   show ((x.2.2.2==[]) || (decide (0≤comP l (pf15 l k).2.1.2.1)&&decide (comP l (pf15 l k).2.1.2.1 < tt)))=((x.2.2.2==[]) || (true&&((cmP l (pf15 l k).2.1.2.1 != -1)&&decide (cmP l (pf15 l k).2.1.2.1 < tt))))
   congr 1
   rw [Bool.true_and,cmP_is]
   by_cases h:0≤comP l (pf15 l k).2.1.2.1
   ·rw [if_pos h,decide_eq_true h,show (comP l (pf15 l k).2.1.2.1 != -1)=true from bne_iff_ne.2 (by omega)]
   ·rw [if_neg h,decide_eq_false h];rfl
def ofK15 (k:Int) (x y:Ev):Bool :=
 if k=1 then (x.1==3)&&(y.1==3) else if k=2 then (x.1==3)&&(y.1==2) else if k=3 then (x.1==2)&&(y.1==3) else false
theorem kindE_is (l:List Pf) (e:Ed) (x y:Ev):kindE l e x y=(ofK15 e.1 x y&&(if e.1=1 then decide (comP l e.2.1 < comP l e.2.2.1) else if e.1=2 then (x.2.2.2==y.2.2.2) else if e.1=3 then aheadP l x (comP l e.2.2.1) else false)):=by
 unfold kindE ofK15
 split
 ·rfl
 ·split
  ·rw [dec_beq15];rfl
  ·split
   ·rfl
   ·rfl
set_option maxHeartbeats 4000000 in
theorem pover15_any (l:List Pf) (v:Value) (w:World) (hP:IsPfs w v l) (x:Ev) (t p:Int) :
 Calls Tryz.prog 42 #[v,.agg (evA15 x),.int .i64 t,.int .i64 p] w fun e w'=>e=.returned (.bool (overB l x t p))∧Below w.heap.size w w':=by
 obtain ⟨x0,x1,x2,x3⟩:=x;have b0:=(Below.refl w.heap.size w).alloc (by simp) (.cells #[.int .i64 x0,.int .i64 x1,.string ⟨x2.toArray⟩,.string ⟨x3.toArray⟩] 53);have X00:=SBox.new (w) 53 #[.int .i64 x0,.int .i64 x1,.string ⟨x2.toArray⟩,.string ⟨x3.toArray⟩];have HW1:Hid (Below w.heap.size w ((w).alloc (.cells #[.int .i64 x0,.int .i64 x1,.string ⟨x2.toArray⟩,.string ⟨x3.toArray⟩] 53))):=b0;have Y0:=X00;generalize hW:(w).alloc (.cells #[.int .i64 x0,.int .i64 x1,.string ⟨x2.toArray⟩,.string ⟨x3.toArray⟩] 53)=W at HW1 Y0;clear b0 X00;have D:=pwriter15_any l v W (hP.below HW1.out) (x0,x1,x2,x3);obtain ⟨o,ho⟩:∃ o,wrP l x2 x3=o:=⟨_,rfl⟩;rw [overB_is (o:=o) (ho:=ho)];simp only at D ⊢;rw [ho] at D;obtain ⟨P,hPo⟩:∃ P,gotO l o=P:=⟨_,rfl⟩
 obtain ⟨os,hos⟩:∃ x,o.isSome=x:=⟨_,rfl⟩;have HP:Hid (gotO l o=P∧o.isSome=os):=⟨hPo,hos⟩;rw [hPo,hos];obtain ⟨p0,⟨y0,y1,y2,y3⟩,q⟩:=P;simp only;obtain ⟨a,cap,rfl,k1,k2,k3⟩:=hP.len;obtain ⟨nn,hn⟩:∃ n,l.length=n:=⟨_,rfl⟩;rw [hn] at k1 k3 D ⊢;clear hn hP ho hPo hos;obtain ⟨r1,g1⟩:∃ r,(x3 != [])=r:=⟨_,rfl⟩;obtain ⟨r2,g2⟩:∃ r,decide (p0 < p)=r:=⟨_,rfl⟩;obtain ⟨r3,g3⟩:∃ r,(y1==t)=r:=⟨_,rfl⟩;rw [g1,g2,g3];have gb:(x3==[])=!r1:=by rw [← g1];cases x3<;>rfl
 have H:(r1=false)∨(r1=true∧os=false)∨(r1=true∧os=true∧r2=false)∨(r1=true∧os=true∧r2=true):=by
  cases os<;>cases r1<;>cases r2<;>cases r3<;>simp
 rcases H with rfl | ⟨rfl,rfl⟩ | ⟨rfl,rfl,rfl⟩ | ⟨rfl,rfl,rfl⟩
 all_goals
  simp only [Bool.not_true,Bool.not_false] at gb;go_enter Tryz.func42,Tryz.ntmps42
  go_upto_region 1 with fail
  (try rw [hW])
  clear hW;have xa0:=Y0.cell 0 _ rfl;have xa1:=Y0.cell 1 _ rfl;have xa2:=Y0.cell 2 _ rfl;have xa3:=Y0.cell 3 _ rfl;go_wp2_with fail
  refine D.mono ?_;rintro e w1 ⟨a1,n1,c1,rfl,b1⟩;rw [HP.out.1,HP.out.2];clear xa0 xa1 xa2 xa3 D;have B1:=bel_trans HW1.out b1;have B2:=B1.alloc B1.size (.cells #[.int .i64 p0,.int .i64 y0,.int .i64 y1,.string ⟨y2.toArray⟩,.string ⟨y3.toArray⟩,.slice a1 n1 c1] 55);have Z:=SBox.new w1 55 #[.int .i64 p0,.int .i64 y0,.int .i64 y1,.string ⟨y2.toArray⟩,.string ⟨y3.toArray⟩,.slice a1 n1 c1];have Z0:=(Y0.below b1).alloc (.cells #[.int .i64 p0,.int .i64 y0,.int .i64 y1,.string ⟨y2.toArray⟩,.string ⟨y3.toArray⟩,.slice a1 n1 c1] 55);have z0:=Z.cell 0 _ rfl;have z2:=Z.cell 2 _ rfl;have u3:=Z0.cell 3 _ rfl;go_wp2_with fail
  go_ret
  exact ⟨rfl,B2⟩
set_option maxHeartbeats 4000000 in
theorem plast15_any (l:List Pf) (v:Value) (w:World) (hP:IsPfs w v l) (x:Ev) (bk bi bj:Int) :
 Calls Tryz.prog 43 #[v,.agg (evA15 x),.agg #[.int .i64 bk,.int .i64 bi,.int .i64 bj]] w fun e w'=>e=.returned (.bool (lastB l x bi bj))∧Below w.heap.size w w':=by
 obtain ⟨x0,x1,x2,x3⟩:=x;have b0:=(Below.refl w.heap.size w).alloc (by simp) (.cells #[.int .i64 x0,.int .i64 x1,.string ⟨x2.toArray⟩,.string ⟨x3.toArray⟩] 53);have X00:=SBox.new (w) 53 #[.int .i64 x0,.int .i64 x1,.string ⟨x2.toArray⟩,.string ⟨x3.toArray⟩];have b1:=b0.alloc (by simp) (.cells #[.int .i64 bk,.int .i64 bi,.int .i64 bj] 24);have X11:=SBox.new ((w).alloc (.cells #[.int .i64 x0,.int .i64 x1,.string ⟨x2.toArray⟩,.string ⟨x3.toArray⟩] 53)) 24 #[.int .i64 bk,.int .i64 bi,.int .i64 bj];rw [World.size_alloc] at X11;have X01:=X00.alloc (.cells #[.int .i64 bk,.int .i64 bi,.int .i64 bj] 24);have HW1:Hid (Below w.heap.size w (((w).alloc (.cells #[.int .i64 x0,.int .i64 x1,.string ⟨x2.toArray⟩,.string ⟨x3.toArray⟩] 53)).alloc (.cells #[.int .i64 bk,.int .i64 bi,.int .i64 bj] 24))):=b1
 have Y0:=X01;have Y1:=X11;generalize hW:((w).alloc (.cells #[.int .i64 x0,.int .i64 x1,.string ⟨x2.toArray⟩,.string ⟨x3.toArray⟩] 53)).alloc (.cells #[.int .i64 bk,.int .i64 bi,.int .i64 bj] 24)=W at HW1 Y0 Y1;clear b0 b1 X00 X01 X11;have D:=pwriter15_any l v W (hP.below HW1.out) (x0,x1,x2,x3);obtain ⟨o,ho⟩:∃ o,wrP l x2 x3=o:=⟨_,rfl⟩;rw [lastB_is (o:=o) (ho:=ho)];simp only at D ⊢;rw [ho] at D;obtain ⟨P,hPo⟩:∃ P,gotO l o=P:=⟨_,rfl⟩;obtain ⟨os,hos⟩:∃ x,o.isSome=x:=⟨_,rfl⟩;have HP:Hid (gotO l o=P∧o.isSome=os):=⟨hPo,hos⟩;rw [hPo,hos];obtain ⟨p0,⟨y0,y1,y2,y3⟩,q⟩:=P;simp only;obtain ⟨a,cap,rfl,k1,k2,k3⟩:=hP.len;obtain ⟨nn,hn⟩:∃ n,l.length=n:=⟨_,rfl⟩;rw [hn] at k1 k3 D ⊢;clear hn hP ho hPo hos;obtain ⟨r1,g1⟩:∃ r,(x3==[])=r:=⟨_,rfl⟩
 obtain ⟨r2,g2⟩:∃ r,(y1 != x1)=r:=⟨_,rfl⟩;obtain ⟨r3,g3⟩:∃ r,decide (p0 < bj)=r:=⟨_,rfl⟩;obtain ⟨r4,g4⟩:∃ r,decide (p0 > bi)=r:=⟨_,rfl⟩;rw [g1,g2,g3,g4]
 have H:(r1=true)∨(r1=false∧os=false)∨(r1=false∧os=true∧r2=true)∨(r1=false∧os=true∧r2=false∧r3=true)∨(r1=false∧os=true∧r2=false∧r3=false):=by
  cases os<;>cases r1<;>cases r2<;>cases r3<;>cases r4<;>simp
 rcases H with rfl | ⟨rfl,rfl⟩ | ⟨rfl,rfl,rfl⟩ | ⟨rfl,rfl,rfl,rfl⟩ | ⟨rfl,rfl,rfl,rfl⟩
 all_goals
  go_enter Tryz.func43,Tryz.ntmps43
  go_upto_region 1 with fail
  (try rw [hW])
  clear hW;have xa0:=Y0.cell 0 _ rfl;have xa1:=Y0.cell 1 _ rfl;have xa2:=Y0.cell 2 _ rfl;have xa3:=Y0.cell 3 _ rfl;go_wp2_with fail
  refine D.mono ?_;rintro e w1 ⟨a1,n1,c1,rfl,b1⟩;rw [HP.out.1,HP.out.2];clear xa0 xa1 xa2 xa3 D;have B1:=bel_trans HW1.out b1;have B2:=B1.alloc B1.size (.cells #[.int .i64 p0,.int .i64 y0,.int .i64 y1,.string ⟨y2.toArray⟩,.string ⟨y3.toArray⟩,.slice a1 n1 c1] 55);have Z:=SBox.new w1 55 #[.int .i64 p0,.int .i64 y0,.int .i64 y1,.string ⟨y2.toArray⟩,.string ⟨y3.toArray⟩,.slice a1 n1 c1];have Z0:=(Y0.below b1).alloc (.cells #[.int .i64 p0,.int .i64 y0,.int .i64 y1,.string ⟨y2.toArray⟩,.string ⟨y3.toArray⟩,.slice a1 n1 c1] 55);have Z1:=(Y1.below b1).alloc (.cells #[.int .i64 p0,.int .i64 y0,.int .i64 y1,.string ⟨y2.toArray⟩,.string ⟨y3.toArray⟩,.slice a1 n1 c1] 55);have z0:=Z.cell 0 _ rfl;have z2:=Z.cell 2 _ rfl
  have u3:=Z0.cell 3 _ rfl;have u1:=Z0.cell 1 _ rfl;have v1:=Z1.cell 1 _ rfl;have v2:=Z1.cell 2 _ rfl;go_wp2_with fail
  go_ret
  exact ⟨rfl,B2⟩
set_option maxHeartbeats 4000000 in
theorem pahead15_any (l:List Pf) (v:Value) (w:World) (hP:IsPfs w v l) (x:Ev) (tt:Int) :
 Calls Tryz.prog 49 #[v,.agg (evA15 x),.int .i64 tt] w fun e w'=>e=.returned (.bool (aheadP l x tt))∧Below w.heap.size w w':=by
 obtain ⟨x0,x1,x2,x3⟩:=x;have b0:=(Below.refl w.heap.size w).alloc (by simp) (.cells #[.int .i64 x0,.int .i64 x1,.string ⟨x2.toArray⟩,.string ⟨x3.toArray⟩] 53);have X00:=SBox.new (w) 53 #[.int .i64 x0,.int .i64 x1,.string ⟨x2.toArray⟩,.string ⟨x3.toArray⟩];have HW1:Hid (Below w.heap.size w ((w).alloc (.cells #[.int .i64 x0,.int .i64 x1,.string ⟨x2.toArray⟩,.string ⟨x3.toArray⟩] 53))):=b0;have Y0:=X00;generalize hW:(w).alloc (.cells #[.int .i64 x0,.int .i64 x1,.string ⟨x2.toArray⟩,.string ⟨x3.toArray⟩] 53)=W at HW1 Y0;clear b0 X00;have D:=pwriter15_any l v W (hP.below HW1.out) (x0,x1,x2,x3);have DC:=fun V (hV:Below w.heap.size w V) t=>pcommit15_any l v V (hP.below hV) t
 obtain ⟨o,ho⟩:∃ o,wrP l x2 x3=o:=⟨_,rfl⟩;rw [aheadP_is (o:=o) (ho:=ho)];simp only at D ⊢;rw [ho] at D;obtain ⟨P,hPo⟩:∃ P,gotO l o=P:=⟨_,rfl⟩;obtain ⟨os,hos⟩:∃ x,o.isSome=x:=⟨_,rfl⟩;have HP:Hid (gotO l o=P∧o.isSome=os):=⟨hPo,hos⟩;rw [hPo,hos];obtain ⟨p0,⟨y0,y1,y2,y3⟩,q⟩:=P;simp only;obtain ⟨a,cap,rfl,k1,k2,k3⟩:=hP.len;obtain ⟨nn,hn⟩:∃ n,l.length=n:=⟨_,rfl⟩;rw [hn] at k1 k3 D DC ⊢;clear hn hP ho hPo hos;obtain ⟨at_,hat⟩:∃ z,cmP l y1=z:=⟨_,rfl⟩;rw [hat];have DC1:=fun V hV=>DC V hV y1
 rw [hat] at DC1;have HDC:=Lib.hid DC1;clear DC DC1 hat;obtain ⟨r1,g1⟩:∃ r,(x3==[])=r:=⟨_,rfl⟩;obtain ⟨r2,g2⟩:∃ r,(at_ != -1)=r:=⟨_,rfl⟩;obtain ⟨r3,g3⟩:∃ r,decide (at_ < tt)=r:=⟨_,rfl⟩;rw [g1,g2,g3]
 have H:(r1=true)∨(r1=false∧os=false)∨(r1=false∧os=true∧r2=false)∨(r1=false∧os=true∧r2=true):=by
  cases os<;>cases r1<;>cases r2<;>cases r3<;>simp
 rcases H with rfl | ⟨rfl,rfl⟩ | ⟨rfl,rfl,rfl⟩ | ⟨rfl,rfl,rfl⟩
 all_goals
  go_enter Tryz.func49,Tryz.ntmps49
  go_upto_region 1 with fail
  (try rw [hW])
  clear hW;have xa0:=Y0.cell 0 _ rfl;have xa1:=Y0.cell 1 _ rfl;have xa2:=Y0.cell 2 _ rfl;have xa3:=Y0.cell 3 _ rfl;go_wp2_with fail
  refine D.mono ?_;rintro e w1 ⟨a1,n1,c1,rfl,b1⟩;rw [HP.out.1,HP.out.2];clear xa0 xa1 xa2 xa3 D;have B1:=bel_trans HW1.out b1;have B2:=B1.alloc B1.size (.cells #[.int .i64 p0,.int .i64 y0,.int .i64 y1,.string ⟨y2.toArray⟩,.string ⟨y3.toArray⟩,.slice a1 n1 c1] 55);have Z:=SBox.new w1 55 #[.int .i64 p0,.int .i64 y0,.int .i64 y1,.string ⟨y2.toArray⟩,.string ⟨y3.toArray⟩,.slice a1 n1 c1];have Z0:=(Y0.below b1).alloc (.cells #[.int .i64 p0,.int .i64 y0,.int .i64 y1,.string ⟨y2.toArray⟩,.string ⟨y3.toArray⟩,.slice a1 n1 c1] 55);have z0:=Z.cell 0 _ rfl;have z2:=Z.cell 2 _ rfl;have u3:=Z0.cell 3 _ rfl;have E:=HDC.out _ B2;go_wp2_with fail
  refine E.mono ?_;rintro e w2 ⟨rfl,b2⟩;have B3:=bel_trans B2 b2;have T0:=Z0.below b2;have t3:=T0.cell 3 _ rfl;clear z0 z2 u3 E;go_wp2_with fail
  go_ret
  exact ⟨rfl,B3⟩
set_option maxHeartbeats 4000000 in
theorem pofk15_any (w:World) (k:Int) (x y:Ev) :
 Calls Tryz.prog 48 #[.int .i64 k,.agg (evA15 x),.agg (evA15 y)] w fun e w'=>e=.returned (.bool (ofK15 k x y))∧Below w.heap.size w w':=by
 obtain ⟨x0,x1,x2,x3⟩:=x;obtain ⟨y0,y1,y2,y3⟩:=y;have b0:=(Below.refl w.heap.size w).alloc (by simp) (.cells #[.int .i64 x0,.int .i64 x1,.string ⟨x2.toArray⟩,.string ⟨x3.toArray⟩] 53);have b1:=b0.alloc (by simp) (.cells #[.int .i64 y0,.int .i64 y1,.string ⟨y2.toArray⟩,.string ⟨y3.toArray⟩] 53);have X0:=(SBox.new w 53 #[.int .i64 x0,.int .i64 x1,.string ⟨x2.toArray⟩,.string ⟨x3.toArray⟩]).alloc (.cells #[.int .i64 y0,.int .i64 y1,.string ⟨y2.toArray⟩,.string ⟨y3.toArray⟩] 53);have Y0:=SBox.new (w.alloc (.cells #[.int .i64 x0,.int .i64 x1,.string ⟨x2.toArray⟩,.string ⟨x3.toArray⟩] 53)) 53 #[.int .i64 y0,.int .i64 y1,.string ⟨y2.toArray⟩,.string ⟨y3.toArray⟩];rw [World.size_alloc] at Y0;have x0c:=X0.cell 0 _ rfl
 have y0c:=Y0.cell 0 _ rfl;clear X0 Y0 b0;have hk:ofK15 k (x0,x1,x2,x3) (y0,y1,y2,y3)=(if k=1 then (x0==3)&&(y0==3) else if k=2 then (x0==3)&&(y0==2) else if k=3 then (x0==2)&&(y0==3) else false):=rfl;rw [hk];clear hk;obtain ⟨r1,g1⟩:∃ r,(x0==3)=r:=⟨_,rfl⟩;obtain ⟨r2,g2⟩:∃ r,(x0==2)=r:=⟨_,rfl⟩;obtain ⟨r3,g3⟩:∃ r,(y0==3)=r:=⟨_,rfl⟩;obtain ⟨r4,g4⟩:∃ r,(y0==2)=r:=⟨_,rfl⟩;rw [g1,g2,g3,g4]
 by_cases d1:k=1
 ·have e1:(k==1)=true:=by rw [d1];rfl
  rw [if_pos d1];clear d1;cases r1
  all_goals
   go_enter Tryz.func48,Tryz.ntmps48
   go_wp2_with fail
   go_ret
   exact ⟨rfl,b1⟩
 ·have e1:(k==1)=false:=beq_eq_false_iff_ne.2 d1
  rw [if_neg d1];clear d1
  by_cases d2:k=2
  ·have e2:(k==2)=true:=by rw [d2];rfl
   rw [if_pos d2];clear d2;cases r1
   all_goals
    go_enter Tryz.func48,Tryz.ntmps48
    go_wp2_with fail
    go_ret
    exact ⟨rfl,b1⟩
  ·have e2:(k==2)=false:=beq_eq_false_iff_ne.2 d2
   rw [if_neg d2];clear d2
   by_cases d3:k=3
   ·have e3:(k==3)=true:=by rw [d3];rfl
    rw [if_pos d3];clear d3;cases r2
    all_goals
     go_enter Tryz.func48,Tryz.ntmps48
     go_wp2_with fail
     go_ret
     exact ⟨rfl,b1⟩
   ·have e3:(k==3)=false:=beq_eq_false_iff_ne.2 d3
    rw [if_neg d3];clear d3;go_enter Tryz.func48,Tryz.ntmps48
    go_wp2_with fail
    go_ret
    exact ⟨rfl,b1⟩
end Go.Proofs.YthamoeekiglphaaGreatDoor
