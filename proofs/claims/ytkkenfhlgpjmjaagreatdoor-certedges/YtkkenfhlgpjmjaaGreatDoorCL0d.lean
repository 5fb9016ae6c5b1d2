/-
  What history.Versions answers. What cartoucheref06.May answers. What event.within, texts and May answer. Transactions, as a loop over the living events makes th
-/
import Derived.Test.YtkkenfhlgpjmjaaGreatDoorCL0c
import Derived.Deep.Cut
import Derived.Lib.AppendStr
import Derived.Lib.UnsafeStr
namespace Go.Proofs.YtkkenfhlgpjmjaaGreatDoor
set_option maxRecDepth 100000
open Go.RowKit Go.Shelf Go.Maps
set_option linter.unusedVariables false
attribute [local go_sem] Oper.semAt_some ba_size
def oIf (f:Int→Option Nat):Int→Option Int:=fun t=>(f t).map Int.ofNat
theorem oIf_upd (f:Int→Option Nat) (t:Int) (k:Nat):updI (oIf f) t (k:Int)=oIf (updN f t k):=by
 funext u
 unfold updI oIf updN
 by_cases h:u=t
 ·rw [if_pos h,if_pos h];rfl
 ·rw [if_neg h,if_neg h]
theorem versF_few (h:List Ev) (key:List UInt8):∀ (pre:List (Fin h.length)) (s:(Int→Option Nat) × List Nat),(pre.foldl (versS h key) s).2.length≤s.2.length+pre.length
 | [],s=>Nat.le_refl _
 | x::pre,s=>by
   have h1:=versF_few h key pre (versS h key s x)
   have h2:=versF_len h key x s
   rw [List.foldl_cons,List.length_cons]
   omega
theorem versF_le (h:List Ev) (key:List UInt8) (pre:List (Fin h.length)):(versF h key pre).2.length≤pre.length:=by have:=versF_few h key pre (fun _=>none,[]);simpa [versF] using this
theorem recI_snoc (L:List Int) (x:Int):recV intV (L++[x])=recV intV L++[.int .i64 x]:=by rw [recV_append];rfl
def ZInv (w:World) (key:List UInt8) (sl:Value) (h:List Ev) (pre:List (Fin h.length)) (W:World):Prop :=
 ∃ v,ZSt w 9 (.string ⟨key.toArray⟩) 23 3 1 sl v pre.length (oIf (versF h key pre).1) ((versF h key pre).2.map Int.ofNat).length (recV intV ((versF h key pre).2.map Int.ofNat)) W
set_option maxHeartbeats 4000000 in
theorem pvers8_any (h:List Ev) (v:Value) (w:World) (key:List UInt8) (hT:IsEvs w v h) (hG:∀ x∈h,goodE x) (hn:h.length≤300) :
 Calls Tryz.prog 249 #[v,.string ⟨key.toArray⟩] w fun e w'=>InRow w ((versL h key).map Int.ofNat) e w':=by
 have hT0:=hT
 obtain ⟨a,cap,rfl,h1,h2,h3,HC⟩:=hT.some_at
 clear HC hT
 have hmm:=@run_makeMap Tryz.prog
 obtain ⟨i0,hi,hz0,hz1,hz2⟩:=info_parts int_info
 refine (callsIn_wide (n:=8)).1 ?_
 refine callsIn_of_wp_marks Tryz.func249 rfl trivial ?_ rfl
 simp only [Tryz.ntmps249,List.size_toArray,List.length_cons,List.length_nil,Nat.reduceAdd,Nat.reduceSub,Array.replicate_succ,Array.replicate_zero,List.push_toArray,List.append_toArray,List.nil_append,List.cons_append]
 gi_wp2_with ((try refine ⟨trivial,?_⟩);gi_at_call 194;refine (callsIn_wide.2 (pliving_any _ _ _ _)).mono ?_;rintro e w2 ⟨rfl,rfl⟩)
 have hS0:ZSt w 9 (.string ⟨key.toArray⟩) 23 3 1 (.slice a h.length cap) (.slice none 0 0) 0 (oIf (fun _=>none)) 0 [] (((((w.alloc (.cells #[.string ⟨key.toArray⟩] 9)).alloc (.cells #[.slice none 0 0] 23)).alloc (.map #[] 0)).alloc (.cells #[.map (some (w.heap.size+1+1))] 251)).alloc (.cells #[.slice a h.length cap] 22)):=by
  have b0:=((((Boxed.new w 9 (.string ⟨key.toArray⟩)).alloc (.cells #[.slice none 0 0] 23)).alloc (.map #[] 0)).alloc (.cells #[.map (some (w.heap.size+1+1))] 251)).alloc (.cells #[.slice a h.length cap] 22)
  have b1:=(((Boxed.new (w.alloc (.cells #[.string ⟨key.toArray⟩] 9)) 23 (.slice none 0 0)).alloc (.map #[] 0)).alloc (.cells #[.map (some (w.heap.size+1+1))] 251)).alloc (.cells #[.slice a h.length cap] 22)
  have b2:=((IMap.made ((w.alloc (.cells #[.string ⟨key.toArray⟩] 9)).alloc (.cells #[.slice none 0 0] 23))).kept (World.grownBy_alloc _ (.cells #[.map (some (w.heap.size+1+1))] 251) none) (by simp)).kept (World.grownBy_alloc _ (.cells #[.slice a h.length cap] 22) none) (by simp)
  have b3:=(Boxed.new (((w.alloc (.cells #[.string ⟨key.toArray⟩] 9)).alloc (.cells #[.slice none 0 0] 23)).alloc (.map #[] 0)) 251 (.map (some (w.heap.size+1+1)))).alloc (.cells #[.slice a h.length cap] 22)
  have b4:=Boxed.new ((((w.alloc (.cells #[.string ⟨key.toArray⟩] 9)).alloc (.cells #[.slice none 0 0] 23)).alloc (.map #[] 0)).alloc (.cells #[.map (some (w.heap.size+1+1))] 251)) 22 (.slice a h.length cap)
  simp only [World.size_alloc] at b0 b1 b2 b3 b4
  exact ⟨(((((Below.refl _ w).alloc (Nat.le_refl _) _).alloc (by simp) _).alloc (by simp;omega) _).alloc (by simp;omega) _).alloc (by simp;omega) _,by simp,b0,b1,b2,b3,b4,World.ownsRow_nil _ _ _ _,fun g hg=>by simp [Value.ownBlock] at hg⟩
 obtain ⟨W0,hW0⟩:∃ W0,(((((w.alloc (.cells #[.string ⟨key.toArray⟩] 9)).alloc (.cells #[.slice none 0 0] 23)).alloc (.map #[] 0)).alloc (.cells #[.map (some (w.heap.size+1+1))] 251)).alloc (.cells #[.slice a h.length cap] 22))=W0:=⟨_,rfl⟩
 have sW0:W0.heap.size=w.heap.size+1+1+1+1+1:=by rw [← hW0];simp
 change Code.wpIn _ _ _ _ _ _ (((((w.alloc (.cells #[.string ⟨key.toArray⟩] 9)).alloc (.cells #[.slice none 0 0] 23)).alloc (.map #[] 0)).alloc (.cells #[.map (some (w.heap.size+1+1))] 251)).alloc (.cells #[.slice a h.length cap] 22))
 rw [hW0] at hS0 ⊢
 clear hW0
 refine rangeFunc_C rfl (by omega) (gf:=242) (lb:=#[.pointer (some ⟨w.heap.size+1+1+1+1,0,none⟩)]) rfl trivial (enters_of Tryz.func242 (by kernel_rfl) rfl)
  (Kp:=KpL w.heap.size (w.heap.size+1+1+1+1) (w.heap.size+1+1+1+1+1+1+1)) (H:=w.heap.size+1+1+1+1+1+1+1+1+1+1+1) (S:=fun ys=>ys=livP h) (Sp:=fun pre=>pre <+: livP h) (N:=h.length)
  (fun V hV hs=>by
   have:=living8_stops h w a cap hT0 hG hn (w.heap.size+1+1+1+1) (8 - 1) (W0.heap.size+1) W0 V hS0.below hS0.be hV
   rw [hs,sW0] at this
   rw [sW0]
   exact this) (fun h k=>KpL.trans h k) (fun W o o' h=>by rw [sW0] at h ⊢;exact kpL_put (by omega) (by omega) (by omega) o h o') (fun _=>rfl)
  (ZInv w key (.slice a h.length cap) h) (fun _ _ _=>False)
  (fun s X Y row ⟨v,hs⟩ hg hr=>⟨v,hs.turn hg (fun r e=>⟨by have:=(hr r e).1;omega,(hr r e).2⟩)⟩)
  (fun _=>ownFrom_false _)
  ⟨_,hS0⟩
  (fun x a' W=>∃ Bx,w.heap.size+1+1+1+1+1+1+1+1+1+1+1≤Bx∧SBox W Bx 64 #[.int .i64 h[x.val].1,.int .i64 h[x.val].2.1,.string ⟨h[x.val].2.2.1.toArray⟩,.string ⟨h[x.val].2.2.2.toArray⟩]∧a'={ tmps:=#[.slice a h.length cap,.string ⟨key.toArray⟩,undef,.pointer (some ⟨w.heap.size,0,none⟩),.slice none 0 0,.pointer (some ⟨w.heap.size+1,0,none⟩),.pointer (some ⟨w.heap.size+1+1+1,0,none⟩),.int .i64 (x.val:Int),.pointer (some ⟨Bx,0,none⟩),undef,undef,.map (some (w.heap.size+1+1)),.slice a h.length cap,livingF (w.heap.size+1+1+1+1),.int .i64 (x.val:Int),evW h[x.val],undef,undef,undef,undef,undef,undef,undef,undef,undef,undef,undef,undef,undef,undef,undef,undef,undef,undef,undef,undef,undef,undef,undef,undef,undef],defers:=[] })
  (fun x a' _ A B row hs hg hr=>by
   obtain ⟨Bx,h1,h2,h4⟩:=hs
   exact ⟨Bx,h1,block_kept h2 hg (fun r e=>(hr r e).2),h4⟩)
  ?assign ?body ?done ?stop
 case assign =>
  rintro l pre x W K ⟨v,hS⟩ hH hK
  have hsz:=hS.size
  have b1:=(Below.refl W.heap.size W).alloc (Nat.le_refl _) (.cells #[.int .i64 h[x.val].1,.int .i64 h[x.val].2.1,.string ⟨h[x.val].2.2.1.toArray⟩,.string ⟨h[x.val].2.2.2.toArray⟩] 64)
  gi_wp2
  refine hK _ _ ((KeepsOthers.alloc _ _).from _) (kpL_bel (by omega) (by omega) (by omega) b1) ⟨v,hS.bel b1⟩ ⟨W.heap.size,by omega,SBox.new W _ _,rfl⟩
 case body =>
  rintro l pre x a' W ⟨v,hS⟩ hH ⟨Bx,hBx,hblk,rfl⟩ hlt
  have HW0:Hid (W0.heap.size=w.heap.size+1+1+1+1+1):=sW0
  clear sW0 hS0
  have hsz:=hS.size
  have hxn:=x.isLt
  have hgx:=hG h[x.val] (List.getElem_mem _)
  obtain ⟨⟨y0,y1,y2,y3⟩,hy⟩:∃ y,h[x.val]=y:=⟨_,rfl⟩
  have HV:Hid (versF h key (pre++[x])=versS h key (versF h key pre) x):=versF_snoc h key pre x
  have HLe:=versF_le h key pre
  obtain ⟨s,hs⟩:∃ s,versF h key pre=s:=⟨_,rfl⟩
  rw [hs] at hS HLe HV
  have HS:Hid (versS h key s x=(if y0=3∧y2=key then updN s.1 y1 x.val else s.1,if y0=4 then s.2++((if y0=3∧y2=key then updN s.1 y1 x.val else s.1) y1).toList else s.2)):=by
   show _=_
   unfold versS lastS
   rw [hy]
  clear hs
  rw [hy] at hblk hgx ⊢
  simp only at hblk hgx
  clear hy
  have ki:=key8i hgx.2.1
  clear hgx
  obtain ⟨i,hxi⟩:∃ i,x.val=i:=⟨_,rfl⟩
  rw [hxi] at hxn HS ⊢
  clear hxi
  have LX:Hid ((pre++[x]).length=pre.length+1):=by show _=_;simp
  have c0:=hS.b0.cell
  have q0:=hblk.cell 0 _ rfl
  have q1:=hblk.cell 1 _ rfl
  have q2:=hblk.cell 2 _ rfl
  have q3:=hblk.cell 3 _ rfl
  have C:=pwrites_any y0 y1 y2 y3 key W
  obtain ⟨s1,s2⟩:=s
  simp only at hS HLe HS
  by_cases hm:y0=3∧y2=key
  ·rw [decide_eq_true hm] at C
   have e4:(y0==4)=false:=by rw [hm.1];rfl
   have HR:Hid (versS h key (s1,s2) x=(updN s1 y1 i,s2)):=by
    show _=_
    rw [HS.out,if_pos hm,if_neg (by rw [hm.1];decide)]
   clear hm HS
   gi_wp2_with ((try refine ⟨trivial,?_⟩);gi_at_call 231;refine (CallsIn.inRound l (callsIn_wide.2 C)).mono ?_;clear C;rintro e W1 ⟨rfl,b1⟩;refine Hid.out ?_)
   have z1:=b1.size
   have hS1:=hS.bel b1
   have x1:=hblk.below b1
   have d1:=x1.cell 1 _ rfl
   have c3:=hS1.bb.cell
   obtain ⟨D1,hown1,hD1⟩:=hS1.bm
   clear c0 q0 q1 q2 q3
   refine Lib.hid ?_
   gi_wp2_with (gi_at_mapUpdate;refine wpListIn_mapUpdate_own _ rfl _ _ _ 251 rfl 3 3 law8i Tryz.underlying251 _ (w.heap.size+1+1) pre.length D1 rfl hown1 (by unfold maxLen;omega) _ _ _ rfl rfl ki _ [] (plainElem_int Tryz.underlying3 (WalkArith.wf_i64 (by omega))) ?_;intro W2 hown2 hg2;refine Hid.out ?_)
   have hS2:=hS1.map hg2 (IMap.put hD1 hown1.isMap y1 (i:Int) hown2)
   have x2:SBox W2 Bx 64 _:=(hg2.block Bx x1.lt (fun e=>by have:=Option.some.inj e;omega)).trans x1
   have z2:=hg2.size
   have KK:KeepsFrom W0.heap.size W W2:=by
    have hw0:=HW0.out
    exact ((keeps_of_below b1).from _).trans (KeepsFrom.of_grownBy hg2 (fun j e=>by cases e;omega))
   have KP:KpL w.heap.size (w.heap.size+1+1+1+1) (w.heap.size+1+1+1+1+1+1+1) W W2:=(kpL_bel (by omega) (by omega) (by omega) b1).trans (kpL_grown (by omega) (by omega) (by omega) hg2 (fun r e=>by cases e;omega))
   have HF:Hid (KeepsFrom W0.heap.size W W2∧KpL w.heap.size (w.heap.size+1+1+1+1) (w.heap.size+1+1+1+1+1+1+1) W W2∧ZInv w key (.slice a h.length cap) h (pre++[x]) W2):=by
    refine ⟨KK,KP,v,?_⟩
    rw [LX.out,HV.out,HR.out,← oIf_upd]
    exact hS2
   have d0:=x2.cell 0 _ rfl
   have d1:=x2.cell 1 _ rfl
   have c3:=hS2.bb.cell
   obtain ⟨D2,hown2,hD2⟩:=hS2.bm
   have hy1:=(hD2 y1).1
   have hu:updI (oIf s1) y1 (i:Int) y1=some (i:Int):=by unfold updI;rw [if_pos rfl]
   rw [hu] at hy1
   clear hS hS1 hS2 hD1 hD2 hown1 KK KP HR HV hu x1 x2
   refine Lib.hid ?_
   gi_wp2_with (gi_at_lookup;refine wpListIn_lookup_own_ok_int _ rfl _ _ 251 rfl 3 3 .i64 law8i Tryz.underlying251 Tryz.underlying3 (zero8i _) (w.heap.size+1+1) (pre.length+1) D2 rfl hown2 _ _ rfl ki ?_;rw [hy1];intro c hc hwc;clear hc hwc)
   exact HF.out
  ·rw [decide_eq_false hm] at C
   have HR:Hid (versS h key (s1,s2) x=(s1,if y0=4 then s2++(s1 y1).toList else s2)):=by
    show _=_
    rw [HS.out,if_neg hm]
   clear hm HS
   gi_wp2_with ((try refine ⟨trivial,?_⟩);gi_at_call 231;refine (CallsIn.inRound l (callsIn_wide.2 C)).mono ?_;clear C;rintro e W1 ⟨rfl,b1⟩;refine Hid.out ?_)
   have z1:=b1.size
   have hS1:=hS.bel b1
   have x1:=hblk.below b1
   have d0:=x1.cell 0 _ rfl
   have d1:=x1.cell 1 _ rfl
   have c3:=hS1.bb.cell
   have cv:=hS1.bv.cell
   have gv:=hS1.bv.frozen
   obtain ⟨D1,hown1,hD1⟩:=hS1.bm
   have hy1:=(hD1 y1).1
   have KK:KeepsFrom W0.heap.size W W1:=(keeps_of_below b1).from _
   have KP:KpL w.heap.size (w.heap.size+1+1+1+1) (w.heap.size+1+1+1+1+1+1+1) W W1:=kpL_bel (by omega) (by omega) (by omega) b1
   clear c0 q0 q1 q2 q3 hS
   cases hf:s1 y1 with
   | none =>
     have hy2:Maps.has D1 (.int .i64 y1)=false:=by rw [hy1];unfold oIf;rw [hf];rfl
     have HF:Hid (KeepsFrom W0.heap.size W W1∧KpL w.heap.size (w.heap.size+1+1+1+1) (w.heap.size+1+1+1+1+1+1+1) W W1∧ZInv w key (.slice a h.length cap) h (pre++[x]) W1):=by
      refine ⟨KK,KP,v,?_⟩
      have e:(if y0=4 then s2++(s1 y1).toList else s2)=s2:=by rw [hf];simp
      rw [LX.out,HV.out,HR.out,e]
      exact hS1.keep (Nat.le_succ _) rfl
     clear hS1 hD1 KK KP HR HV x1 hy1 hf
     refine Lib.hid ?_
     gi_wp2_with (gi_at_lookup;refine wpListIn_lookup_own_ok_int _ rfl _ _ 251 rfl 3 3 .i64 law8i Tryz.underlying251 Tryz.underlying3 (zero8i _) (w.heap.size+1+1) pre.length D1 rfl hown1 _ _ rfl ki ?_;rw [hy2];intro c hc hwc;clear hc hwc)
     exact HF.out
   | some q =>
     have hy2:Maps.has D1 (.int .i64 y1)=true:=by rw [hy1];unfold oIf;rw [hf];rfl
     have hat1:=(hD1 y1).2 (q:Int) (by unfold oIf;rw [hf];rfl)
     by_cases d4:y0=4
     ·have e4:(y0==4)=true:=by rw [d4];rfl
      have HQ:Hid ((if y0=4 then s2++(s1 y1).toList else s2)=s2++[q]):=by show _=_;rw [hf,if_pos d4];rfl
      have hrow:=hS1.row
      clear hD1 hy1 hf d4
      refine Lib.hid ?_
      gi_wp2_with (first
       | (gi_at_lookup;refine wpListIn_lookup_own_ok_int _ rfl _ _ 251 rfl 3 3 .i64 law8i Tryz.underlying251 Tryz.underlying3 (zero8i _) (w.heap.size+1+1) pre.length D1 rfl hown1 _ _ rfl ki ?_;rw [hy2];intro c hc hwc;obtain rfl:c=(q:Int):=(by have:=hc.symm.trans hat1;simpa using this);clear hc hwc)
       | (gi_at_builtin;refine wpListIn_append_own_at _ rfl _ _ 23 rfl w.heap.size 3 i0 (.int .i64 0) 1 8 Tryz.underlying23 hi hz0 hz1 hz2 rfl (by decide) _ _ _ rfl (hrow.alloc _) ⟨W1.heap.size,0,none⟩ 1 1 [.int .i64 (q:Int)] rfl rfl ?a1 ?a2 ?a3 ?a4 ?a5 ?_))
      case a1=>intro j u hj;match j,hj with
       | 0,hj=>simp at hj;subst hj;simp [Addr.add]
      case a2=>intro u hu;simp at hu;subst hu;rfl
      case a3=>simp;unfold maxLen;omega
      case a4=>simp;omega
      case a5=>simp;omega
      intro v' W2 hown2 hg2 _ hat2
      obtain ⟨g',cap',rfl⟩:=ownsRow_succ hown2
      have hS2:=hS1.app (by omega) hown2 hg2 hat2
      have cv2:=((hS1.bv.alloc (.cells #[.int .i64 (q:Int)] 3)).kept hg2 (fun e=>by have:=hS1.far _ e.symm;omega)).cell
      have gv2:=((hS1.bv.alloc (.cells #[.int .i64 (q:Int)] 3)).kept hg2 (fun e=>by have:=hS1.far _ e.symm;omega)).frozen
      have z2:=hg2.size
      rw [World.size_alloc] at z2
      have KK2:=(KK.trans ((KeepsOthers.alloc W1 (.cells #[.int .i64 (q:Int)] 3)).from _)).trans ((keeps_row (hrow.alloc (.cells #[.int .i64 (q:Int)] 3)) hg2).from _)
      have KP2:=(KP.trans (kpL_bel (by omega) (by omega) (by omega) ((Below.refl W1.heap.size W1).alloc (Nat.le_refl _) (.cells #[.int .i64 (q:Int)] 3)))).trans (kpL_grown (by simp;omega) (by simp;omega) (by simp;omega) hg2 (fun r e=>by have:=hS1.far r e;omega))
      have HF:Hid (KeepsFrom W0.heap.size W (W2.setCell ⟨w.heap.size+1,0,none⟩ (.slice (some ⟨g',0,none⟩) (s2.length+1) cap'))∧KpL w.heap.size (w.heap.size+1+1+1+1) (w.heap.size+1+1+1+1+1+1+1) W (W2.setCell ⟨w.heap.size+1,0,none⟩ (.slice (some ⟨g',0,none⟩) (s2.length+1) cap'))∧ZInv w key (.slice a h.length cap) h (pre++[x]) (W2.setCell ⟨w.heap.size+1,0,none⟩ (.slice (some ⟨g',0,none⟩) (s2.length+1) cap'))):=by
       refine ⟨KK2.trans ((KeepsOthers.setCell _ _ _).from _),KP2.trans (kpL_grown (by omega) (by omega) (by omega) (grownBy_setCell' _ _ _) (fun r e=>by cases e;omega)),.slice (some ⟨g',0,none⟩) (s2.length+1) cap',?_⟩
       rw [LX.out,HV.out,HR.out,HQ.out]
       have hS3:=hS2.keep (m':=pre.length+1) (Nat.le_succ _) rfl
       simp only [List.map_append,List.map_cons,List.map_nil]
       rw [recI_snoc,List.length_append]
       simpa using hS3
      clear hS1 hS2 hown1 hown2 KK KP KK2 KP2 HR HV HQ x1 hrow hat1 hat2
      gi_wp2
      exact HF.out
     ·have e4:(y0==4)=false:=beq_eq_false_iff_ne.2 d4
      have HF:Hid (KeepsFrom W0.heap.size W W1∧KpL w.heap.size (w.heap.size+1+1+1+1) (w.heap.size+1+1+1+1+1+1+1) W W1∧ZInv w key (.slice a h.length cap) h (pre++[x]) W1):=by
       refine ⟨KK,KP,v,?_⟩
       rw [LX.out,HV.out,HR.out,if_neg d4]
       exact hS1.keep (Nat.le_succ _) rfl
      clear hS1 hD1 KK KP HR HV x1 hy1 hf d4
      refine Lib.hid ?_
      gi_wp2_with (gi_at_lookup;refine wpListIn_lookup_own_ok_int _ rfl _ _ 251 rfl 3 3 .i64 law8i Tryz.underlying251 Tryz.underlying3 (zero8i _) (w.heap.size+1+1) pre.length D1 rfl hown1 _ _ rfl ki ?_;rw [hy2];intro c hc hwc;clear hc hwc)
      exact HF.out
 case done =>
  rintro D ys W hD rfl ⟨v,hS⟩ hK
  have HE:Hid ((versF h key (livP h)).2=versL h key):=vers_liv h key
  have c1:=hS.bv.cell
  have HD:Hid (w.heap.size+1+1+1+1+1≤D):=by rw [sW0] at hD;exact hD
  clear sW0 hS0 hD
  gi_wp2
  refine ⟨by simp,.inl ⟨_,_,rfl,run_takeDeferred hK,?_⟩⟩
  refine ⟨_,results_tmp rfl _ _ _,_,rfl,hS.below.trans (belowK_b (w:=w) (Nat.le_refl _) _ D _ _ (by have:=HD.out;omega) hK rfl rfl),?_⟩
  have hr:=hS.row
  rw [HE.out] at hr
  exact ownsRow_putObj hr _ hK rfl
 case stop =>
  rintro D c pre W hD hSp h hK
  exact h.elim
end Go.Proofs.YtkkenfhlgpjmjaaGreatDoor
namespace Go.Proofs.YtkkenfhlgpjmjaaGreatDoor
set_option maxRecDepth 100000
open Go.RowKit
set_option linter.unusedVariables false
attribute [local go_sem] ba_size
theorem ne_empty' (l:List UInt8) (h:l≠[]):l.isEmpty=false:=by cases l with
 | nil=>exact absurd rfl h
 | cons _ _=>rfl
theorem pwithin_any (t:List UInt8) (lo hi:Int) (w:World) :
 Calls Tryz.prog 185 #[.string ⟨t.toArray⟩,.int .i64 lo,.int .i64 hi] w fun e w'=>e=.returned (.bool (decide (lo≤(t.length:Int)∧(t.length:Int)≤hi)))∧Below w.heap.size w w':=by
 by_cases c1:lo≤(t.length:Int)
 ·have d1:¬ (t.length:Int) < lo:=by omega
  by_cases c2:(t.length:Int)≤hi
  ·rw [decide_eq_true (show _∧_ from ⟨c1,c2⟩)]
   go_enter Tryz.func185,Tryz.ntmps185
   go_wp2_with fail
   go_ret
   exact ⟨rfl,Below.refl _ _⟩
  ·rw [decide_eq_false (show ¬ (_∧_) from fun h=>c2 h.2)]
   go_enter Tryz.func185,Tryz.ntmps185
   go_wp2_with fail
   go_ret
   exact ⟨rfl,Below.refl _ _⟩
 ·have d1:(t.length:Int) < lo:=by omega
  rw [decide_eq_false (show ¬ (_∧_) from fun h=>c1 h.1)]
  go_enter Tryz.func185,Tryz.ntmps185
  go_wp2_with fail
  go_ret
  exact ⟨rfl,Below.refl _ _⟩
theorem ptexts2 (w:World):Calls Tryz.prog 149 #[.int .i64 2] w fun e w'=>e=.returned (.tuple #[.bool true,.int .i64 0])∧Below w.heap.size w w':=by
 go_enter Tryz.func149,Tryz.ntmps149
 go_wp2_with fail
 go_ret2
 exact ⟨rfl,Below.refl _ _⟩
theorem ptexts3 (w:World):Calls Tryz.prog 149 #[.int .i64 3] w fun e w'=>e=.returned (.tuple #[.bool true,.int .i64 1])∧Below w.heap.size w w':=by
 go_enter Tryz.func149,Tryz.ntmps149
 go_wp2_with fail
 go_ret2
 exact ⟨rfl,Below.refl _ _⟩
theorem ptextsN (k:Int) (h:¬ (k=2∨k=3)) (w:World):Calls Tryz.prog 149 #[.int .i64 k] w fun e w'=>e=.returned (.tuple #[.bool false,.int .i64 0])∧Below w.heap.size w w':=by
 have q1:(k==2)=false:=by rw [beq_eq_false_iff_ne];exact fun h'=>h (Or.inl h')
 have q2:(k==3)=false:=by rw [beq_eq_false_iff_ne];exact fun h'=>h (Or.inr h')
 clear h
 go_enter Tryz.func149,Tryz.ntmps149
 go_wp2_with fail
 go_ret2
 exact ⟨rfl,Below.refl _ _⟩
theorem ptexts_key (k:Int) (h:k=2∨k=3) (w:World):Calls Tryz.prog 149 #[.int .i64 k] w fun e w'=>e=.returned (.tuple #[.bool true,.int .i64 (if k=2 then 0 else 1)])∧Below w.heap.size w w':=by
 rcases h with rfl | rfl
 ·exact ptexts2 w
 ·exact ptexts3 w
set_option maxHeartbeats 1000000 in
theorem pmay_any (k t:Int) (a b:List UInt8) (w:World) :
 Calls Tryz.prog 123 #[.agg #[.int .i64 k,.int .i64 t,.string ⟨a.toArray⟩,.string ⟨b.toArray⟩]] w fun e w'=>e=.returned (.bool (decide (mayE (k,t,a,b))))∧Below w.heap.size w w':=by
 have al:∀ o,Below w.heap.size w (w.alloc o):=fun o=>(Below.refl _ w).alloc (Nat.le_refl _) o
 by_cases c0:k < 1
 ·rw [decide_eq_false (show ¬ mayE _ from fun h=>by have h:=mayE_range h;omega)]
  go_enter Tryz.func123,Tryz.ntmps123
  go_wp2_with fail
  go_ret
  exact ⟨rfl,al _⟩
 ·have c0':¬ k < 1:=c0
  by_cases c1:5 < k
  ·rw [decide_eq_false (show ¬ mayE _ from fun h=>by have h:=mayE_range h;omega)]
   go_enter Tryz.func123,Tryz.ntmps123
   go_wp2_with fail
   go_ret
   exact ⟨rfl,al _⟩
  ·have c1':¬ 5 < k:=c1
   by_cases c2:t < 1
   ·rw [decide_eq_false (show ¬ mayE _ from fun h=>by have h:=mayE_range h;omega)]
    go_enter Tryz.func123,Tryz.ntmps123
    go_wp2_with fail
    go_ret
    exact ⟨rfl,al _⟩
   ·have c2':¬ t < 1:=c2
    by_cases c3:32 < t
    ·rw [decide_eq_false (show ¬ mayE _ from fun h=>by have h:=mayE_range h;omega)]
     go_enter Tryz.func123,Tryz.ntmps123
     go_wp2_with fail
     go_ret
     exact ⟨rfl,al _⟩
    ·have c3':¬ 32 < t:=c3
     by_cases u1:k=2∨k=3
     ·have T:=fun W=>ptexts_key k u1 W
      obtain ⟨m,hm⟩:∃ m:Int,(if k=2 then 0 else 1:Int)=m:=⟨_,rfl⟩
      rw [hm] at T
      have HM:Hid (decide (mayE (k,t,a,b))=decide (((1:Int)≤(a.length:Int)∧(a.length:Int)≤32)∧(m≤(b.length:Int)∧(b.length:Int)≤32))):=by
       show _=_
       rw [decide_eq_decide,mayE_key u1]
       rcases u1 with rfl | rfl
       ·rw [if_pos rfl] at hm;subst hm;omega
       ·rw [if_neg (by omega)] at hm;subst hm;omega
      rw [HM.out]
      clear u1 hm HM
      have W1:=fun W=>pwithin_any a 1 32 W
      have W2:=fun W=>pwithin_any b m 32 W
      by_cases d1:(1:Int)≤(a.length:Int)∧(a.length:Int)≤32
      ·rw [decide_eq_true d1] at W1
       obtain ⟨v,hv⟩:∃ v,decide (m≤(b.length:Int)∧(b.length:Int)≤32)=v:=⟨_,rfl⟩
       have HV:Hid (decide (((1:Int)≤(a.length:Int)∧(a.length:Int)≤32)∧(m≤(b.length:Int)∧(b.length:Int)≤32))=v):=by
        show _=_
        rw [← hv,decide_eq_decide]
        exact ⟨fun h=>h.2,fun h=>⟨d1,h⟩⟩
       rw [HV.out]
       rw [hv] at W2
       clear hv HV d1
       have HW1:Hid (∀ W,Calls Tryz.prog 185 #[.string ⟨a.toArray⟩,.int .i64 1,.int .i64 32] W fun e w'=>e=.returned (.bool true)∧Below W.heap.size W w'):=W1
       have HW2:Hid (∀ W,Calls Tryz.prog 185 #[.string ⟨b.toArray⟩,.int .i64 m,.int .i64 32] W fun e w'=>e=.returned (.bool v)∧Below W.heap.size W w'):=W2
       clear W1 W2
       go_enter Tryz.func123,Tryz.ntmps123
       go_wp2_with fail
       refine (T _).mono ?_
       rintro e w1 ⟨rfl,b1⟩
       have x2:=box_cell b1 2 _ rfl
       go_wp2_with fail
       refine (HW1.out _).mono ?_
       rintro e w2 ⟨rfl,b2⟩
       have b2':=bel_trans b1 b2
       have x3:=box_cell b2' 3 _ rfl
       go_wp2_with fail
       refine (HW2.out _).mono ?_
       rintro e w3 ⟨rfl,b3⟩
       go_wp2_with fail
       go_ret
       exact ⟨rfl,bel_trans (al _) (bel_trans b2' b3)⟩
      ·rw [decide_eq_false d1] at W1
       rw [decide_eq_false (show ¬ (_∧_) from fun h=>d1 h.1)]
       have HW1:Hid (∀ W,Calls Tryz.prog 185 #[.string ⟨a.toArray⟩,.int .i64 1,.int .i64 32] W fun e w'=>e=.returned (.bool false)∧Below W.heap.size W w'):=W1
       clear d1 W1 W2
       go_enter Tryz.func123,Tryz.ntmps123
       go_wp2_with fail
       refine (T _).mono ?_
       rintro e w1 ⟨rfl,b1⟩
       have x2:=box_cell b1 2 _ rfl
       go_wp2_with fail
       refine (HW1.out _).mono ?_
       rintro e w2 ⟨rfl,b2⟩
       have b2':=bel_trans b1 b2
       go_wp2_with fail
       go_ret
       exact ⟨rfl,bel_trans (al _) b2'⟩
     ·have T:=fun W=>ptextsN k u1 W
      have HM:Hid (decide (mayE (k,t,a,b))=decide (a=[]∧b=[])):=by
       show _=_
       rw [decide_eq_decide,mayE_unkey u1]
       exact ⟨fun h=>h.2,fun h=>⟨by omega,h⟩⟩
      rw [HM.out]
      clear u1 HM
      cases a with
      | nil =>
        cases b with
        | nil =>
          go_enter Tryz.func123,Tryz.ntmps123
          go_wp2_with fail
          refine (T _).mono ?_
          rintro e w1 ⟨rfl,b1⟩
          have x2:=box_cell b1 2 _ rfl
          have x3:=box_cell b1 3 _ rfl
          go_wp2_with fail
          go_ret
          exact ⟨rfl,bel_trans (al _) b1⟩
        | cons y r =>
          rw [decide_eq_false (show ¬ (_∧_) from fun h=>by cases h.2)]
          obtain ⟨b,hb⟩:∃ b,y::r=b:=⟨_,rfl⟩
          have q:=ne_empty' b (by rw [← hb];simp)
          rw [hb]
          clear hb
          go_enter Tryz.func123,Tryz.ntmps123
          go_wp2_with fail
          refine (T _).mono ?_
          rintro e w1 ⟨rfl,b1⟩
          have x2:=box_cell b1 2 _ rfl
          have x3:=box_cell b1 3 _ rfl
          go_wp2_with fail
          go_ret
          exact ⟨rfl,bel_trans (al _) b1⟩
      | cons x r =>
        rw [decide_eq_false (show ¬ (_∧_) from fun h=>by cases h.1)]
        obtain ⟨a,ha⟩:∃ a,x::r=a:=⟨_,rfl⟩
        have q:=ne_empty' a (by rw [← ha];simp)
        rw [ha]
        clear ha
        go_enter Tryz.func123,Tryz.ntmps123
        go_wp2_with fail
        refine (T _).mono ?_
        rintro e w1 ⟨rfl,b1⟩
        have x2:=box_cell b1 2 _ rfl
        go_wp2_with fail
        go_ret
        exact ⟨rfl,bel_trans (al _) b1⟩
def nf:List Lf→Int→Option Nat
 | [],_=>none
 | y::L,t=>if y.1=t then some 0 else (nf L t).map (·+ 1)
theorem nf_snoc (y:Lf):∀ (L:List Lf) (t:Int),nf (L++[y]) t=(nf L t).or (if y.1=t then some L.length else none)
 | [],t=>by
   show nf [y] t=_
   rw [nf,nf,nf]
   by_cases h:y.1=t
   ·rw [if_pos h,if_pos h];rfl
   ·rw [if_neg h,if_neg h];rfl
 | z::L,t=>by
   show nf (z::(L++[y])) t=_
   rw [nf,nf,nf_snoc y L t]
   by_cases h:z.1=t
   ·rw [if_pos h,if_pos h];rfl
   ·rw [if_neg h,if_neg h]
    cases nf L t with
    | none=>by_cases h2:y.1=t<;>simp [h2]
    | some m=>simp
theorem nf_some:∀ (L:List Lf) (t:Int) (m:Nat),nf L t=some m→∃ h:m < L.length,L[m].1=t
 | [],t,m,h=>by cases h
 | z::L,t,m,h=>by
   rw [nf] at h
   by_cases hz:z.1=t
   ·rw [if_pos hz] at h
    cases h
    exact ⟨by simp,hz⟩
   ·rw [if_neg hz] at h
    cases hn:nf L t with
    | none=>rw [hn] at h;cases h
    | some q =>
      rw [hn] at h
      cases h
      obtain ⟨h1,h2⟩:=nf_some L t q hn
      exact ⟨by simp;omega,by simpa using h2⟩
theorem nf_none:∀ (L:List Lf) (t:Int),nf L t=none↔∀ y∈L,y.1≠t
 | [],t=>by simp [nf]
 | z::L,t=>by
   rw [nf]
   by_cases hz:z.1=t
   ·rw [if_pos hz];simp [hz]
   ·rw [if_neg hz,Option.map_eq_none_iff,nf_none L t];simp [hz]
theorem nf_set:∀ (L:List Lf) (m:Nat) (y:Lf) (t:Int),(∀ h:m < L.length,L[m].1=y.1)→nf (L.set m y) t=nf L t
 | [],m,y,t,_=>rfl
 | z::L,0,y,t,h=>by
   have:=h (by simp)
   simp only [List.getElem_cons_zero] at this
   rw [List.set_cons_zero,nf,nf,this]
 | z::L,m+1,y,t,h=>by
   rw [List.set_cons_succ,nf,nf,nf_set L m y t (fun hm=>by have:=h (by simpa using hm);simpa using this)]
def newL (h:List Ev) (L:List Lf) (x:Fin h.length):List Lf:=if nf L h[x.val].2.1=none then L++[(h[x.val].2.1,x.val,h.length,false)] else L
def numL8 (h:List Ev) (L:List Lf) (x:Fin h.length):Nat:=(nf L h[x.val].2.1).getD L.length
def endS (L:List Lf) (m i:Nat) (b:Bool):List Lf:=L.set m ((L.getD m (0,0,0,false)).1,(L.getD m (0,0,0,false)).2.1,i,b)
def livS (h:List Ev) (L:List Lf) (x:Fin h.length):List Lf:=if endE h[x.val] then endS (newL h L x) (numL8 h L x) x.val (decide (h[x.val].1=4)) else newL h L x
def lvF (h:List Ev) (pre:List (Fin h.length)):List Lf:=pre.foldl (livS h) []
theorem lvF_snoc (h:List Ev) (pre:List (Fin h.length)) (x:Fin h.length):lvF h (pre++[x])=livS h (lvF h pre) x:=by
 unfold lvF
 rw [List.foldl_append]
 rfl
theorem endS_len (L:List Lf) (m i:Nat) (b:Bool):(endS L m i b).length=L.length:=by unfold endS;rw [List.length_set]
theorem endS_nf (L:List Lf) (m i:Nat) (b:Bool) (t:Int):nf (endS L m i b) t=nf L t:=nf_set L m _ t (fun h=>by rw [List.getD_eq_getElem?_getD,List.getElem?_eq_getElem h];rfl)
theorem new_len (h:List Ev) (L:List Lf) (x:Fin h.length):(newL h L x).length≤L.length+1:=by
 unfold newL
 by_cases hn:nf L h[x.val].2.1=none
 ·rw [if_pos hn];simp
 ·rw [if_neg hn];omega
theorem liv_len (h:List Ev) (L:List Lf) (x:Fin h.length):(livS h L x).length≤L.length+1:=by
 unfold livS
 have:=new_len h L x
 by_cases he:endE h[x.val]
 ·rw [if_pos he,endS_len];exact this
 ·rw [if_neg he];exact this
def fstS (h:List Ev) (k:Nat):List Nat:=(List.range k).filter fun i=>decide (fstL h (ev h i).2.1 i=none)
def lifTo (h:List Ev) (k i:Nat):Lf:=match endL h (ev h i).2.1 k with
 | none=>((ev h i).2.1,i,h.length,false)
 | some e=>((ev h i).2.1,i,e,decide ((ev h e).1=4))
def livTo (h:List Ev) (k:Nat):List Lf:=(fstS h k).map (lifTo h k)
theorem lifTo_fst (h:List Ev) (k i:Nat):(lifTo h k i).1=(ev h i).2.1:=by unfold lifTo;cases endL h (ev h i).2.1 k<;>rfl
theorem endL_grow {h:List Ev} {t:Int} {k e:Nat} (he:endL h t k=some e):endL h t (k+1)=some e:=by
 rw [endL_some] at he ⊢
 exact ⟨by omega,he.2⟩
theorem endL_other {h:List Ev} {t:Int} {k:Nat} (hn:(ev h k).2.1≠t):endL h t (k+1)=endL h t k:=by
 cases he:endL h t k with
 | some e=>exact endL_grow he
 | none=>exact endL_skip h t k he (fun hh=>hn hh.1)
theorem lifTo_other {h:List Ev} {k i:Nat} (hn:(ev h k).2.1≠(ev h i).2.1):lifTo h (k+1) i=lifTo h k i:=by unfold lifTo;rw [endL_other hn]
theorem lifTo_dead {h:List Ev} {k i e:Nat} (he:endL h (ev h i).2.1 k=some e):lifTo h (k+1) i=lifTo h k i:=by unfold lifTo;rw [endL_grow he,he]
theorem fstS_mem {h:List Ev} {k i:Nat}:i∈fstS h k↔i < k∧fstL h (ev h i).2.1 i=none:=by
 unfold fstS
 rw [List.mem_filter,List.mem_range,decide_eq_true_eq]
theorem fstS_one {h:List Ev} {k i j:Nat} (hi:i∈fstS h k) (hj:j∈fstS h k) (he:(ev h i).2.1=(ev h j).2.1):i=j:=by
 obtain ⟨i1,i2⟩:=fstS_mem.1 hi
 obtain ⟨j1,j2⟩:=fstS_mem.1 hj
 rcases Nat.lt_trichotomy i j with hl | hl | hl
 ·exact absurd he ((fstL_none h _ _).1 j2 i hl)
 ·exact hl
 ·exact absurd he.symm ((fstL_none h _ _).1 i2 j hl)
theorem fstS_next (h:List Ev) (k:Nat):fstS h (k+1)=fstS h k++if fstL h (ev h k).2.1 k=none then [k] else []:=by
 unfold fstS
 rw [List.range_succ,List.filter_append]
 congr 1
 by_cases hf:fstL h (ev h k).2.1 k=none
 ·rw [if_pos hf,List.filter_cons_of_pos (by rw [decide_eq_true_eq];exact hf)];rfl
 ·rw [if_neg hf,List.filter_cons_of_neg (by rw [decide_eq_true_eq];exact hf)];rfl
theorem fstS_inj (h:List Ev) (k m j:Nat) (hm:m < (fstS h k).length) (hj:j < (fstS h k).length) (he:(fstS h k)[m]=(fstS h k)[j]):m=j:=by
 have hp:(fstS h k).Pairwise (·< ·):=List.Pairwise.filter _ List.pairwise_lt_range
 rw [List.pairwise_iff_getElem] at hp
 rcases Nat.lt_trichotomy m j with hl | hl | hl
 ·have:=hp m j hm hj hl;omega
 ·exact hl
 ·have:=hp j m hj hm hl;omega
theorem fm_congr {α β:Type} {f g:α→Option β}:∀ {l:List α},(∀ i∈l,f i=g i)→l.filterMap f=l.filterMap g
 | [],_=>rfl
 | a::l,hh=>by
   rw [List.filterMap_cons,List.filterMap_cons,hh a (by simp),fm_congr (fun i hi=>hh i (by simp [hi]))]
theorem livTo_nf (h:List Ev) (k:Nat) (t:Int):nf (livTo h k) t=none↔fstL h t k=none:=by
 rw [nf_none]
 constructor
 ·intro hh
  cases hf:fstL h t k with
  | none=>rfl
  | some f =>
    obtain ⟨f1,f2,f3⟩:=(fstL_some h t k f).1 hf
    have hm:lifTo h k f∈livTo h k:=List.mem_map.2 ⟨f,fstS_mem.2 ⟨f1,(fstL_none h _ _).2 (by rw [f2];exact f3)⟩,rfl⟩
    exact absurd ((lifTo_fst h k f).trans f2) (hh _ hm)
 ·intro hf y hy
  obtain ⟨i,hi,rfl⟩:=List.mem_map.1 hy
  obtain ⟨i1,i2⟩:=fstS_mem.1 hi
  rw [lifTo_fst]
  exact (fstL_none h t k).1 hf i i1
theorem lives_take (h:List Ev):∀ k,k≤h.length→lvF h (livF h ((List.finRange h.length).take k))=livTo h k
 | 0,_=>rfl
 | k+1,hk=>by
   have ih:=lives_take h k (by omega)
   have hk':k < h.length:=by omega
   rw [fin_take hk']
   have hd:=endedIn_take h k (by omega) h[k].2.1
   have ek:=ev_get h k hk'
   cases he:endL h h[k].2.1 k with
   | some e =>
     rw [he] at hd
     rw [livF_snoc_dead h _ ⟨k,hk'⟩ hd,ih]
     obtain ⟨e1,e2,e3⟩:=(endL_some h _ _ _).1 he
     have hf:¬ fstL h (ev h k).2.1 k=none:=by
      intro hf
      rw [ek] at hf
      exact (fstL_none h _ _).1 hf e e1 e2.1
     unfold livTo
     rw [fstS_next,if_neg hf,List.append_nil]
     apply List.map_congr_left
     intro i hi
     by_cases hn:(ev h k).2.1=(ev h i).2.1
     ·exact (lifTo_dead (e:=e) (by rw [← hn,ek];exact he)).symm
     ·exact (lifTo_other hn).symm
   | none =>
     rw [he] at hd
     rw [livF_snoc h _ ⟨k,hk'⟩ hd,lvF_snoc,ih]
     by_cases hf:fstL h (ev h k).2.1 k=none
     ·have hnf:nf (livTo h k) h[k].2.1=none:=(livTo_nf h k _).2 (by rw [← ek];exact hf)
      have hnew:newL h (livTo h k) ⟨k,hk'⟩=livTo h k++[(h[k].2.1,k,h.length,false)]:=by unfold newL;rw [if_pos hnf]
      have hold:(fstS h k).map (lifTo h (k+1))=livTo h k:=by
       apply List.map_congr_left
       intro i hi
       obtain ⟨i1,i2⟩:=fstS_mem.1 hi
       exact lifTo_other (fun hh=>(fstL_none h _ _).1 hf i i1 hh.symm)
      have hnum:numL8 h (livTo h k) ⟨k,hk'⟩=(livTo h k).length:=by unfold numL8;rw [hnf];rfl
      have hR:livTo h (k+1)=livTo h k++[lifTo h (k+1) k]:=by
       show (fstS h (k+1)).map (lifTo h (k+1))=_
       rw [fstS_next,if_pos hf,List.map_append,hold]
       rfl
      rw [hR]
      unfold livS
      rw [hnew,hnum]
      by_cases hn:endE h[k]
      ·have hE:lifTo h (k+1) k=(h[k].2.1,k,k,decide (h[k].1=4)):=by
        unfold lifTo
        rw [ek,(endL_some h _ _ _).2 ⟨by omega,⟨by rw [ek],by rw [ek];exact hn⟩,(endL_none h _ _).1 he⟩]
        simp only [ek]
       rw [if_pos hn,hE]
       unfold endS
       rw [List.set_append_right _ _ (Nat.le_refl _),Nat.sub_self,List.set_cons_zero]
       simp
      ·have hE:lifTo h (k+1) k=(h[k].2.1,k,h.length,false):=by
        unfold lifTo
        rw [ek,endL_skip h _ k he (fun hh=>hn (by rw [← ek];exact hh.2))]
       rw [if_neg hn,hE]
     ·have hnf:nf (livTo h k) h[k].2.1≠none:=fun hh=>hf (by rw [ek];exact (livTo_nf h k _).1 hh)
      have hnew:newL h (livTo h k) ⟨k,hk'⟩=livTo h k:=by unfold newL;rw [if_neg hnf]
      have hR:livTo h (k+1)=(fstS h k).map (lifTo h (k+1)):=by
       show (fstS h (k+1)).map (lifTo h (k+1))=_
       rw [fstS_next,if_neg hf,List.append_nil]
      unfold livS
      rw [hnew,hR]
      by_cases hn:endE h[k]
      ·rw [if_pos hn]
       cases hm:nf (livTo h k) h[k].2.1 with
       | none=>exact absurd hm hnf
       | some m =>
         obtain ⟨m1,m2⟩:=nf_some _ _ _ hm
         have hnum:numL8 h (livTo h k) ⟨k,hk'⟩=m:=by unfold numL8;rw [hm];rfl
         have ml:m < (fstS h k).length:=by unfold livTo at m1;rwa [List.length_map] at m1
         have mg:(livTo h k)[m]=lifTo h k (fstS h k)[m]:=List.getElem_map (lifTo h k)
         rw [mg,lifTo_fst] at m2
         rw [hnum]
         unfold endS
         have hgd:(livTo h k).getD m (0,0,0,false)=lifTo h k (fstS h k)[m]:=by rw [List.getD_eq_getElem?_getD,List.getElem?_eq_getElem m1,mg];rfl
         rw [hgd]
         apply List.ext_getElem
         ·rw [List.length_set,List.length_map];unfold livTo;rw [List.length_map]
         ·intro j j1 j2
          rw [List.getElem_set,List.getElem_map]
          by_cases hj:m=j
          ·subst hj
           rw [if_pos rfl]
           have hE:lifTo h (k+1) (fstS h k)[m]=(h[k].2.1,(fstS h k)[m],k,decide (h[k].1=4)):=by
            unfold lifTo
            rw [m2,(endL_some h _ _ _).2 ⟨by omega,⟨by rw [ek],by rw [ek];exact hn⟩,(endL_none h _ _).1 he⟩]
            simp only [ek]
           rw [hE]
           have hO:lifTo h k (fstS h k)[m]=(h[k].2.1,(fstS h k)[m],h.length,false):=by
            unfold lifTo
            rw [m2,he]
           rw [hO]
          ·rw [if_neg hj]
           have jl:j < (fstS h k).length:=by simpa using j2
           have hg:(livTo h k)[j]'(by unfold livTo;simpa using j2)=lifTo h k (fstS h k)[j]:=List.getElem_map (lifTo h k)
           rw [hg]
           refine (lifTo_other (fun hh=>hj ?_)).symm
           have hsame:(fstS h k)[m]=(fstS h k)[j]:=fstS_one (k:=k) (List.getElem_mem _) (List.getElem_mem _) (by rw [m2,← hh,ek])
           exact fstS_inj h k m j ml jl hsame
      ·rw [if_neg hn]
       unfold livTo
       apply List.map_congr_left
       intro i hi
       by_cases hx:(ev h k).2.1=(ev h i).2.1
       ·unfold lifTo
        rw [← hx,ek,he,endL_skip h _ k he (fun hh=>hn (by rw [← ek];exact hh.2))]
       ·exact (lifTo_other hx).symm
theorem lives_liv (h:List Ev):lvF h (livP h)=livesL h:=by
 have h1:=lives_take h h.length (Nat.le_refl _)
 rw [List.take_of_length_le (by rw [List.length_finRange];exact Nat.le_refl _)] at h1
 show lvF h (livF h _)=_
 rw [h1]
 unfold livTo livesL fstS
 rw [← List.filterMap_eq_filter,List.map_filterMap]
 apply fm_congr
 intro i hi
 have hil:=List.mem_range.1 hi
 simp only [Option.guard]
 by_cases hf:fstL h (ev h i).2.1 i=none
 ·have hfn:fstL h (ev h i).2.1 h.length=some i:=(fstL_some h _ _ _).2 ⟨hil,rfl,(fstL_none h _ _).1 hf⟩
  rw [if_pos hf]
  unfold findL
  rw [hfn]
  simp only [hf]
  unfold lifTo
  cases he:endL h (ev h i).2.1 h.length<;>simp [he]
 ·rw [if_neg hf]
  simp [hf]
theorem lvF_len (h:List Ev):∀ (pre:List (Fin h.length)) (L:List Lf),(pre.foldl (livS h) L).length≤L.length+pre.length
 | [],L=>Nat.le_refl _
 | x::pre,L=>by
   have h1:=lvF_len h pre (livS h L x)
   have h2:=liv_len h L x
   rw [List.foldl_cons,List.length_cons]
   omega
theorem lvF_few (h:List Ev) (pre:List (Fin h.length)):(lvF h pre).length≤pre.length:=by have:=lvF_len h pre [];simpa [lvF] using this
set_option maxHeartbeats 2000000 in
theorem rfirst_any (h:List Ev) (v:Value) (w:World) (hT:IsEvs w v h) (t:Int) (m:Nat) (hm:m≤h.length) :
 Calls Tryz.prog 74 #[v,.int .i64 t,.int .i64 (m:Int)] w fun e w'=>e=.returned (.int .i64 (oI (fstL h t m)))∧Below w.heap.size w w':=by
 obtain ⟨a,cap,rfl,h1,h2,h3,HC⟩:=hT.reads
 obtain ⟨n,hn⟩:∃ n,h.length=n:=⟨_,rfl⟩
 have HN:Hid (h.length=n):=hn
 rw [hn] at h1 h3 hm ⊢
 clear hT hn
 go_enter Tryz.func74,Tryz.ntmps74
 go_wp2_with fail
 go_loopw [7] (fun i wr=>∃ k:Nat,k≤m∧i=.int .i64 k∧Hid (∀ j,j < k→ofTxn h t j=false)∧Below w.heap.size w wr) (fun i _=>m - (RowKit.intOf i).toNat)
 case atStart=>exact ⟨0,Nat.zero_le _,rfl,(fun j hj=>by omega),Below.refl _ _⟩
 case round =>
  obtain ⟨k,hk,rfl,HA,hbw⟩:=hrel
  by_cases hlt:k < m
  ·have hk1:k < h.length:=by have:=HN.out;omega
   have hkn:k < n:=by omega
   obtain ⟨bb,off,rfl,HQ⟩:=HC.out (by omega)
   obtain ⟨c0,c1,c2,c3⟩:=HQ.out k hk1 _ hbw
   obtain ⟨⟨x0,x1,x2,x3⟩,hx⟩:∃ x,ev h k=x:=⟨_,rfl⟩
   have HX:Hid (ev h k=(x0,x1,x2,x3)):=hx
   rw [hx] at c0 c1 c2 c3
   simp only at c0 c1 c2 c3
   clear hx
   by_cases d:x1=t
   ·have e1:(x1==t)=true:=by rw [d];exact beq_self_eq_true _
    have HR:Hid (fstL h t m=some k):=(fi_some _ _ _).2 ⟨hlt,by show decide _=true;rw [HX.out];exact decide_eq_true (d),HA.out⟩
    go_wp2_with fail
    go_ret
    exact ⟨by rw [HR.out];rfl,hbw⟩
   ·have e1:(x1==t)=false:=beq_eq_false_iff_ne.2 d
    have HA':Hid (∀ j,j < k+1→ofTxn h t j=false):=upto_next _ k HA.out (by show decide _=false;rw [HX.out];exact decide_eq_false (d))
    go_wp2_with fail
    refine ⟨?relrfirst_any1,?mearfirst_any1⟩
    case relrfirst_any1=>exact ⟨k+1,by omega,by first | go_num | simp,HA',hbw⟩
    case mearfirst_any1=>simp [RowKit.intOf];omega
  ·have HR:Hid (fstL h t m=none):=(fi_none _ _).2 (by
    obtain rfl:k=m:=by omega
    exact HA.out)
   go_wp2_with fail
   go_ret
   exact ⟨by rw [HR.out];rfl,hbw⟩
set_option maxHeartbeats 2000000 in
theorem rend_any (h:List Ev) (v:Value) (w:World) (hT:IsEvs w v h) (t:Int) (m:Nat) (hm:m≤h.length) :
 Calls Tryz.prog 75 #[v,.int .i64 t,.int .i64 (m:Int)] w fun e w'=>e=.returned (.int .i64 (oI (endL h t m)))∧Below w.heap.size w w':=by
 obtain ⟨a,cap,rfl,h1,h2,h3,HC⟩:=hT.reads
 obtain ⟨n,hn⟩:∃ n,h.length=n:=⟨_,rfl⟩
 have HN:Hid (h.length=n):=hn
 rw [hn] at h1 h3 hm ⊢
 clear hT hn
 go_enter Tryz.func75,Tryz.ntmps75
 go_wp2_with fail
 go_loopw [7] (fun i wr=>∃ k:Nat,k≤m∧i=.int .i64 k∧Hid (∀ j,j < k→isEnd h t j=false)∧Below w.heap.size w wr) (fun i _=>m - (RowKit.intOf i).toNat)
 case atStart=>exact ⟨0,Nat.zero_le _,rfl,(fun j hj=>by omega),Below.refl _ _⟩
 case round =>
  obtain ⟨k,hk,rfl,HA,hbw⟩:=hrel
  by_cases hlt:k < m
  ·have hk1:k < h.length:=by have:=HN.out;omega
   have hkn:k < n:=by omega
   obtain ⟨bb,off,rfl,HQ⟩:=HC.out (by omega)
   obtain ⟨c0,c1,c2,c3⟩:=HQ.out k hk1 _ hbw
   obtain ⟨⟨x0,x1,x2,x3⟩,hx⟩:∃ x,ev h k=x:=⟨_,rfl⟩
   have HX:Hid (ev h k=(x0,x1,x2,x3)):=hx
   rw [hx] at c0 c1 c2 c3
   simp only at c0 c1 c2 c3
   clear hx
   by_cases d:x1=t
   ·have e1:(x1==t)=true:=by rw [d];exact beq_self_eq_true _
    by_cases d4:x0=4
    ·have e4:(x0==4)=true:=by rw [d4];rfl
     have HR:Hid (endL h t m=some k):=(fi_some _ _ _).2 ⟨hlt,by show decide _=true;rw [HX.out];exact decide_eq_true (⟨d,Or.inl d4⟩),HA.out⟩
     go_wp2_with fail
     go_ret
     exact ⟨by rw [HR.out];rfl,hbw⟩
    ·have e4:(x0==4)=false:=beq_eq_false_iff_ne.2 d4
     by_cases d5:x0=5
     ·have e5:(x0==5)=true:=by rw [d5];rfl
      have HR:Hid (endL h t m=some k):=(fi_some _ _ _).2 ⟨hlt,by show decide _=true;rw [HX.out];exact decide_eq_true (⟨d,Or.inr d5⟩),HA.out⟩
      go_wp2_with fail
      go_ret
      exact ⟨by rw [HR.out];rfl,hbw⟩
     ·have e5:(x0==5)=false:=beq_eq_false_iff_ne.2 d5
      have HA':Hid (∀ j,j < k+1→isEnd h t j=false):=upto_next _ k HA.out (by show decide _=false;rw [HX.out];exact decide_eq_false (fun hh=>hh.2.elim d4 d5))
      go_wp2_with fail
      refine ⟨?relrend_any1,?mearend_any1⟩
      case relrend_any1=>exact ⟨k+1,by omega,by first | go_num | simp,HA',hbw⟩
      case mearend_any1=>simp [RowKit.intOf];omega
   ·have e1:(x1==t)=false:=beq_eq_false_iff_ne.2 d
    have HA':Hid (∀ j,j < k+1→isEnd h t j=false):=upto_next _ k HA.out (by show decide _=false;rw [HX.out];exact decide_eq_false (fun hh=>d hh.1))
    go_wp2_with fail
    refine ⟨?relrend_any2,?mearend_any2⟩
    case relrend_any2=>exact ⟨k+1,by omega,by first | go_num | simp,HA',hbw⟩
    case mearend_any2=>simp [RowKit.intOf];omega
  ·have HR:Hid (endL h t m=none):=(fi_none _ _).2 (by
    obtain rfl:k=m:=by omega
    exact HA.out)
   go_wp2_with fail
   go_ret
   exact ⟨by rw [HR.out];rfl,hbw⟩
open Go.RowKit Go.Maps
def Grew (w:World) (B t k:Nat) (r:Value) (n:Nat) (xs:List Value) (e:Ending) (w':World):Prop :=
 ∃ r',e=.returned r'∧w'.ownsRow B t k r' n xs∧w.grownBy w' r.ownBlock∧(r'.ownBlock=r.ownBlock∨∃ g,r'.ownBlock=some g∧w.heap.size≤g)
set_option maxHeartbeats 1000000 in
theorem pbhE_any (r:Value) (n:Nat) (xs:List Value) (x0 x1 x2 x3 x4:Int) (B:Nat) (w:World) (hrow:w.ownsRow B 71 5 r n xs) (hB:B≤w.heap.size) (hn:n≤10000000) :
 Calls Tryz.prog 200 #[r,.agg #[.int .i64 x0,.int .i64 x1,.int .i64 x2,.int .i64 x3,.int .i64 x4]] w fun e w'=>Grew w B 71 5 r (n+1) (xs++[.int .i64 x0,.int .i64 x1,.int .i64 x2,.int .i64 x3,.int .i64 x4]) e w':=by
 obtain ⟨i0,hi,hz0,hz1,hz2⟩:=info_parts ed_info
 have X0:=SBox.new w 71 #[.int .i64 x0,.int .i64 x1,.int .i64 x2,.int .i64 x3,.int .i64 x4]
 have d0:=X0.cell 0 _ rfl
 have d1:=X0.cell 1 _ rfl
 have d2:=X0.cell 2 _ rfl
 have d3:=X0.cell 3 _ rfl
 have d4:=X0.cell 4 _ rfl
 go_enter Tryz.func200,Tryz.ntmps200
 go_wp2_with (at_builtin;refine wpList_append_own_at _ rfl _ _ 26 rfl B 71 i0 (.agg #[.int .i64 0,.int .i64 0,.int .i64 0,.int .i64 0,.int .i64 0]) 5 40 Tryz.underlying26 hi hz0 hz1 hz2 rfl (by decide) r _ _ rfl ((hrow.alloc _).alloc _) ⟨w.heap.size+1,0,none⟩ 1 1 [.int .i64 x0,.int .i64 x1,.int .i64 x2,.int .i64 x3,.int .i64 x4] rfl rfl ?a1 ?a2 ?a3 ?a4 ?a5 ?_)
 case a1=>intro j u hj;match j,hj with
  | 0,hj=>simp at hj;subst hj;first | (simp [Addr.add];done) | exact cell_new7 (by simp) rfl
  | 1,hj=>simp at hj;subst hj;first | (simp [Addr.add];done) | exact cell_new7 (by simp) rfl
  | 2,hj=>simp at hj;subst hj;first | (simp [Addr.add];done) | exact cell_new7 (by simp) rfl
  | 3,hj=>simp at hj;subst hj;first | (simp [Addr.add];done) | exact cell_new7 (by simp) rfl
  | 4,hj=>simp at hj;subst hj;first | (simp [Addr.add];done) | exact cell_new7 (by simp) rfl
 case a2=>intro u hu;simp at hu;rcases hu with rfl | rfl | rfl | rfl | rfl<;>rfl
 case a3=>unfold maxLen;omega
 case a4=>omega
 case a5=>simp;omega
 intro r3 w3 hown3 hg3 _ hat3
 go_wp2_with fail
 go_ret
 exact ⟨r3,rfl,hown3,((World.grownBy_alloc _ _ _).trans (World.grownBy_alloc _ _ _)).trans hg3,hat3.imp id (fun e=>⟨_,e,by omega⟩)⟩
theorem int_info10:(Tryz.prog.info? 3).map (fun i=>(i.zero,i.size,i.bytes))=some (some (.int .i64 0),1,8):=by kernel_rfl
set_option maxHeartbeats 1000000 in
theorem pbhI_any (r:Value) (n:Nat) (xs:List Value) (x:Int) (B:Nat) (w:World) (hrow:w.ownsRow B 3 1 r n xs) (hB:B≤w.heap.size) (hn:n≤10000000) :
 Calls Tryz.prog 209 #[r,.int .i64 x] w fun e w'=>Grew w B 3 1 r (n+1) (xs++[.int .i64 x]) e w':=by
 obtain ⟨i0,hi,hz0,hz1,hz2⟩:=info_parts int_info10
 go_enter Tryz.func209,Tryz.ntmps209
 go_wp2_with (at_builtin;refine wpList_append_own_at _ rfl _ _ 23 rfl B 3 i0 (.int .i64 0) 1 8 Tryz.underlying23 hi hz0 hz1 hz2 rfl (by decide) r _ _ rfl (hrow.alloc _) ⟨w.heap.size,0,none⟩ 1 1 [.int .i64 x] rfl rfl ?a1 ?a2 ?a3 ?a4 ?a5 ?_)
 case a1=>intro j u hj;match j,hj with
  | 0,hj=>simp at hj;subst hj;first | (simp [Addr.add];done) | exact cell_new7 (by simp) rfl
 case a2=>intro u hu;simp at hu;subst hu;rfl
 case a3=>unfold maxLen;omega
 case a4=>omega
 case a5=>simp;omega
 intro r3 w3 hown3 hg3 _ hat3
 go_wp2_with fail
 go_ret
 exact ⟨r3,rfl,hown3,(World.grownBy_alloc _ _ _).trans hg3,hat3.imp id (fun e=>⟨_,e,by omega⟩)⟩
theorem own_shape {W:World} {B e k n:Nat} {v:Value} {xs:List Value} (h:W.ownsRow B e k v n xs):∃ ad c,v=.slice ad n c:=by
 rcases h.2 with ⟨rfl,rfl⟩ | ⟨g,cap,cur,rfl,_⟩
 ·exact ⟨none,0,rfl⟩
 ·exact ⟨_,_,rfl⟩
theorem own_far {W:World} {B e k n:Nat} {v:Value} {xs:List Value} (h:W.ownsRow B e k v n xs):∀ g,v.ownBlock=some g→B≤g:=fun g hg=>(h.lt g hg).1
end Go.Proofs.YtkkenfhlgpjmjaaGreatDoor
namespace Go.Proofs.YtkkenfhlgpjmjaaGreatDoor
set_option maxRecDepth 100000
set_option linter.unusedVariables false
def c3 (h:List Ev) (key:List UInt8) (i:Nat):Bool:=decide ((ev h i).1=3)&&decide ((ev h i).2.2.1=key)
def c2 (h:List Ev) (key:List UInt8) (i:Nat):Bool:=decide ((ev h i).1=2)&&decide ((ev h i).2.2.1=key)
open Go.RowKit
attribute [local go_sem] ba_size
theorem owns_base12 {W:World} {B C e k n:Nat} {v:Value} {xs:List Value} (h:W.ownsRow B e k v n xs) (hC:C≤B):W.ownsRow C e k v n xs:=by
 refine ⟨h.1,?_⟩
 rcases h.2 with hh | ⟨g,cap,cur,hv,hb,hg,rest⟩
 ·exact .inl hh
 ·exact .inr ⟨g,cap,cur,hv,Nat.le_trans hC hb,hg,rest⟩
end Go.Proofs.YtkkenfhlgpjmjaaGreatDoor
namespace Go.Proofs.YtkkenfhlgpjmjaaGreatDoor
set_option maxRecDepth 100000
set_option linter.unusedVariables false
section
variable (kd:List UInt8→List UInt8)
def tagK (k:List UInt8):List UInt8:=kd (5::k)
def tagV (v:List UInt8):List UInt8:=if v=[] then [] else kd (6::v)
def tagE (x:Ev):Ev:=if keyedE x.1 then (x.1,x.2.1,tagK kd x.2.2.1,tagV kd x.2.2.2) else x
def tagsL (h:List Ev):List Ev:=h.map (tagE kd)
theorem tags_len (h:List Ev):(tagsL kd h).length=h.length:=by unfold tagsL;rw [List.length_map]
end
end Go.Proofs.YtkkenfhlgpjmjaaGreatDoor
namespace Go.Proofs.YtkkenfhlgpjmjaaGreatDoor
set_option maxRecDepth 100000
set_option linter.unusedVariables false
abbrev mayK (k:List UInt8):Prop:=1≤k.length∧k.length≤32
section
variable (kd:List UInt8→List UInt8→List UInt8)
end
end Go.Proofs.YtkkenfhlgpjmjaaGreatDoor
namespace Go.Proofs.YtkkenfhlgpjmjaaGreatDoor
set_option maxRecDepth 100000
open Go.RowKit
set_option linter.unusedVariables false
theorem rl_16 (x:Int) (w:World):Calls Tryz.prog 289 #[.int .u32 x,.int .i64 (-16)] w fun e w'=>e=.returned (.int .u32 (rot 65536 65536 x))∧w'=w:=by
 have hs:bits .and .u64 (IntKind.u64.wrap (-16)) 31=16:=by decide +kernel
 go_enter Tryz.func289,Tryz.ntmps289
 go_wp2
 go_ret
 exact ⟨ret_int (or_comm32 _ _),rfl⟩
theorem rl_12 (x:Int) (w:World):Calls Tryz.prog 289 #[.int .u32 x,.int .i64 (-12)] w fun e w'=>e=.returned (.int .u32 (rot 4096 1048576 x))∧w'=w:=by
 have hs:bits .and .u64 (IntKind.u64.wrap (-12)) 31=20:=by decide +kernel
 go_enter Tryz.func289,Tryz.ntmps289
 go_wp2
 go_ret
 exact ⟨ret_int (or_comm32 _ _),rfl⟩
theorem rl_8 (x:Int) (w:World):Calls Tryz.prog 289 #[.int .u32 x,.int .i64 (-8)] w fun e w'=>e=.returned (.int .u32 (rot 256 16777216 x))∧w'=w:=by
 have hs:bits .and .u64 (IntKind.u64.wrap (-8)) 31=24:=by decide +kernel
 go_enter Tryz.func289,Tryz.ntmps289
 go_wp2
 go_ret
 exact ⟨ret_int (or_comm32 _ _),rfl⟩
theorem rl_7 (x:Int) (w:World):Calls Tryz.prog 289 #[.int .u32 x,.int .i64 (-7)] w fun e w'=>e=.returned (.int .u32 (rot 128 33554432 x))∧w'=w:=by
 have hs:bits .and .u64 (IntKind.u64.wrap (-7)) 31=25:=by decide +kernel
 go_enter Tryz.func289,Tryz.ntmps289
 go_wp2
 go_ret
 exact ⟨ret_int (or_comm32 _ _),rfl⟩
set_option maxHeartbeats 400000 in
theorem mix_a (a b c d x:Int) (w:World):Calls Tryz.prog 269 #[.int .u32 a,.int .u32 b,.int .u32 c,.int .u32 d,.int .u32 x,.int .i64 16,.int .i64 12] w fun e w'=>e=.returned (.tuple #[.int .u32 (hA a b x),.int .u32 (hB 65536 65536 4096 1048576 a b c d x),.int .u32 (hC 65536 65536 a b c d x),.int .u32 (hD 65536 65536 a b d x)])∧w'=w:=by
 go_enter Tryz.func269,Tryz.ntmps269
 go_wp2_with fail
 refine (rl_16 _ _).mono ?_
 rintro e w1 ⟨rfl,rfl⟩
 go_wp2_with fail
 refine (rl_12 _ _).mono ?_
 rintro e w1 ⟨rfl,rfl⟩
 go_wp2_with fail
 rw [add3]
 exact bodyPost_ret (results_tmp4 rfl _ _ _) rfl ⟨rfl,rfl⟩
set_option maxHeartbeats 400000 in
theorem mix_b (a b c d x:Int) (w:World):Calls Tryz.prog 269 #[.int .u32 a,.int .u32 b,.int .u32 c,.int .u32 d,.int .u32 x,.int .i64 8,.int .i64 7] w fun e w'=>e=.returned (.tuple #[.int .u32 (hA a b x),.int .u32 (hB 256 16777216 128 33554432 a b c d x),.int .u32 (hC 256 16777216 a b c d x),.int .u32 (hD 256 16777216 a b d x)])∧w'=w:=by
 go_enter Tryz.func269,Tryz.ntmps269
 go_wp2_with fail
 refine (rl_8 _ _).mono ?_
 rintro e w1 ⟨rfl,rfl⟩
 go_wp2_with fail
 refine (rl_7 _ _).mono ?_
 rintro e w1 ⟨rfl,rfl⟩
 go_wp2_with fail
 rw [add3]
 exact bodyPost_ret (results_tmp4 rfl _ _ _) rfl ⟨rfl,rfl⟩
theorem and15 (x:Int) (h0:0≤x) (h1:x < 18446744073709551616):bits .and .u64 x 15=x % 16 :=
 bits_mask .u64 64 (by decide) (fun n h h'=>by rw [IntKind.wrap_u64];omega) 4 (by decide) x h0 h1
def fg (o i:Nat):Nat:=o / 2 ^ (60 - 4*i) % 16
theorem figure_0 (o:Nat) (ho:o < 18446744073709551616) (w:World):Calls Tryz.prog 268 #[.int .u64 o,.int .i64 0] w fun e w'=>e=.returned (.int .i64 (fg o 0))∧w'=w:=by
 have hA:bits .and .u64 ((o:Int) / 1152921504606846976) 15=(o:Int) / 1152921504606846976 % 16:=and15 _ (by omega) (by omega)
 have hw:IntKind.i64.wrap ((o:Int) / 1152921504606846976 % 16)=(o:Int) / 1152921504606846976 % 16:=by rw [IntKind.wrap_i64];omega
 go_enter Tryz.func268,Tryz.ntmps268
 go_wp2
 go_ret
 exact ⟨ret_int (by unfold fg;simp only [Nat.reduceMul,Nat.reduceSub,Nat.reducePow];omega),rfl⟩
theorem figure_1 (o:Nat) (ho:o < 18446744073709551616) (w:World):Calls Tryz.prog 268 #[.int .u64 o,.int .i64 1] w fun e w'=>e=.returned (.int .i64 (fg o 1))∧w'=w:=by
 have hA:bits .and .u64 ((o:Int) / 72057594037927936) 15=(o:Int) / 72057594037927936 % 16:=and15 _ (by omega) (by omega)
 have hw:IntKind.i64.wrap ((o:Int) / 72057594037927936 % 16)=(o:Int) / 72057594037927936 % 16:=by rw [IntKind.wrap_i64];omega
 go_enter Tryz.func268,Tryz.ntmps268
 go_wp2
 go_ret
 exact ⟨ret_int (by unfold fg;simp only [Nat.reduceMul,Nat.reduceSub,Nat.reducePow];omega),rfl⟩
theorem figure_2 (o:Nat) (ho:o < 18446744073709551616) (w:World):Calls Tryz.prog 268 #[.int .u64 o,.int .i64 2] w fun e w'=>e=.returned (.int .i64 (fg o 2))∧w'=w:=by
 have hA:bits .and .u64 ((o:Int) / 4503599627370496) 15=(o:Int) / 4503599627370496 % 16:=and15 _ (by omega) (by omega)
 have hw:IntKind.i64.wrap ((o:Int) / 4503599627370496 % 16)=(o:Int) / 4503599627370496 % 16:=by rw [IntKind.wrap_i64];omega
 go_enter Tryz.func268,Tryz.ntmps268
 go_wp2
 go_ret
 exact ⟨ret_int (by unfold fg;simp only [Nat.reduceMul,Nat.reduceSub,Nat.reducePow];omega),rfl⟩
theorem figure_3 (o:Nat) (ho:o < 18446744073709551616) (w:World):Calls Tryz.prog 268 #[.int .u64 o,.int .i64 3] w fun e w'=>e=.returned (.int .i64 (fg o 3))∧w'=w:=by
 have hA:bits .and .u64 ((o:Int) / 281474976710656) 15=(o:Int) / 281474976710656 % 16:=and15 _ (by omega) (by omega)
 have hw:IntKind.i64.wrap ((o:Int) / 281474976710656 % 16)=(o:Int) / 281474976710656 % 16:=by rw [IntKind.wrap_i64];omega
 go_enter Tryz.func268,Tryz.ntmps268
 go_wp2
 go_ret
 exact ⟨ret_int (by unfold fg;simp only [Nat.reduceMul,Nat.reduceSub,Nat.reducePow];omega),rfl⟩
theorem figure_4 (o:Nat) (ho:o < 18446744073709551616) (w:World):Calls Tryz.prog 268 #[.int .u64 o,.int .i64 4] w fun e w'=>e=.returned (.int .i64 (fg o 4))∧w'=w:=by
 have hA:bits .and .u64 ((o:Int) / 17592186044416) 15=(o:Int) / 17592186044416 % 16:=and15 _ (by omega) (by omega)
 have hw:IntKind.i64.wrap ((o:Int) / 17592186044416 % 16)=(o:Int) / 17592186044416 % 16:=by rw [IntKind.wrap_i64];omega
 go_enter Tryz.func268,Tryz.ntmps268
 go_wp2
 go_ret
 exact ⟨ret_int (by unfold fg;simp only [Nat.reduceMul,Nat.reduceSub,Nat.reducePow];omega),rfl⟩
theorem figure_5 (o:Nat) (ho:o < 18446744073709551616) (w:World):Calls Tryz.prog 268 #[.int .u64 o,.int .i64 5] w fun e w'=>e=.returned (.int .i64 (fg o 5))∧w'=w:=by
 have hA:bits .and .u64 ((o:Int) / 1099511627776) 15=(o:Int) / 1099511627776 % 16:=and15 _ (by omega) (by omega)
 have hw:IntKind.i64.wrap ((o:Int) / 1099511627776 % 16)=(o:Int) / 1099511627776 % 16:=by rw [IntKind.wrap_i64];omega
 go_enter Tryz.func268,Tryz.ntmps268
 go_wp2
 go_ret
 exact ⟨ret_int (by unfold fg;simp only [Nat.reduceMul,Nat.reduceSub,Nat.reducePow];omega),rfl⟩
theorem figure_6 (o:Nat) (ho:o < 18446744073709551616) (w:World):Calls Tryz.prog 268 #[.int .u64 o,.int .i64 6] w fun e w'=>e=.returned (.int .i64 (fg o 6))∧w'=w:=by
 have hA:bits .and .u64 ((o:Int) / 68719476736) 15=(o:Int) / 68719476736 % 16:=and15 _ (by omega) (by omega)
 have hw:IntKind.i64.wrap ((o:Int) / 68719476736 % 16)=(o:Int) / 68719476736 % 16:=by rw [IntKind.wrap_i64];omega
 go_enter Tryz.func268,Tryz.ntmps268
 go_wp2
 go_ret
 exact ⟨ret_int (by unfold fg;simp only [Nat.reduceMul,Nat.reduceSub,Nat.reducePow];omega),rfl⟩
theorem figure_7 (o:Nat) (ho:o < 18446744073709551616) (w:World):Calls Tryz.prog 268 #[.int .u64 o,.int .i64 7] w fun e w'=>e=.returned (.int .i64 (fg o 7))∧w'=w:=by
 have hA:bits .and .u64 ((o:Int) / 4294967296) 15=(o:Int) / 4294967296 % 16:=and15 _ (by omega) (by omega)
 have hw:IntKind.i64.wrap ((o:Int) / 4294967296 % 16)=(o:Int) / 4294967296 % 16:=by rw [IntKind.wrap_i64];omega
 go_enter Tryz.func268,Tryz.ntmps268
 go_wp2
 go_ret
 exact ⟨ret_int (by unfold fg;simp only [Nat.reduceMul,Nat.reduceSub,Nat.reducePow];omega),rfl⟩
theorem figure_8 (o:Nat) (ho:o < 18446744073709551616) (w:World):Calls Tryz.prog 268 #[.int .u64 o,.int .i64 8] w fun e w'=>e=.returned (.int .i64 (fg o 8))∧w'=w:=by
 have hA:bits .and .u64 ((o:Int) / 268435456) 15=(o:Int) / 268435456 % 16:=and15 _ (by omega) (by omega)
 have hw:IntKind.i64.wrap ((o:Int) / 268435456 % 16)=(o:Int) / 268435456 % 16:=by rw [IntKind.wrap_i64];omega
 go_enter Tryz.func268,Tryz.ntmps268
 go_wp2
 go_ret
 exact ⟨ret_int (by unfold fg;simp only [Nat.reduceMul,Nat.reduceSub,Nat.reducePow];omega),rfl⟩
theorem figure_9 (o:Nat) (ho:o < 18446744073709551616) (w:World):Calls Tryz.prog 268 #[.int .u64 o,.int .i64 9] w fun e w'=>e=.returned (.int .i64 (fg o 9))∧w'=w:=by
 have hA:bits .and .u64 ((o:Int) / 16777216) 15=(o:Int) / 16777216 % 16:=and15 _ (by omega) (by omega)
 have hw:IntKind.i64.wrap ((o:Int) / 16777216 % 16)=(o:Int) / 16777216 % 16:=by rw [IntKind.wrap_i64];omega
 go_enter Tryz.func268,Tryz.ntmps268
 go_wp2
 go_ret
 exact ⟨ret_int (by unfold fg;simp only [Nat.reduceMul,Nat.reduceSub,Nat.reducePow];omega),rfl⟩
theorem figure_10 (o:Nat) (ho:o < 18446744073709551616) (w:World):Calls Tryz.prog 268 #[.int .u64 o,.int .i64 10] w fun e w'=>e=.returned (.int .i64 (fg o 10))∧w'=w:=by
 have hA:bits .and .u64 ((o:Int) / 1048576) 15=(o:Int) / 1048576 % 16:=and15 _ (by omega) (by omega)
 have hw:IntKind.i64.wrap ((o:Int) / 1048576 % 16)=(o:Int) / 1048576 % 16:=by rw [IntKind.wrap_i64];omega
 go_enter Tryz.func268,Tryz.ntmps268
 go_wp2
 go_ret
 exact ⟨ret_int (by unfold fg;simp only [Nat.reduceMul,Nat.reduceSub,Nat.reducePow];omega),rfl⟩
theorem figure_11 (o:Nat) (ho:o < 18446744073709551616) (w:World):Calls Tryz.prog 268 #[.int .u64 o,.int .i64 11] w fun e w'=>e=.returned (.int .i64 (fg o 11))∧w'=w:=by
 have hA:bits .and .u64 ((o:Int) / 65536) 15=(o:Int) / 65536 % 16:=and15 _ (by omega) (by omega)
 have hw:IntKind.i64.wrap ((o:Int) / 65536 % 16)=(o:Int) / 65536 % 16:=by rw [IntKind.wrap_i64];omega
 go_enter Tryz.func268,Tryz.ntmps268
 go_wp2
 go_ret
 exact ⟨ret_int (by unfold fg;simp only [Nat.reduceMul,Nat.reduceSub,Nat.reducePow];omega),rfl⟩
theorem figure_12 (o:Nat) (ho:o < 18446744073709551616) (w:World):Calls Tryz.prog 268 #[.int .u64 o,.int .i64 12] w fun e w'=>e=.returned (.int .i64 (fg o 12))∧w'=w:=by
 have hA:bits .and .u64 ((o:Int) / 4096) 15=(o:Int) / 4096 % 16:=and15 _ (by omega) (by omega)
 have hw:IntKind.i64.wrap ((o:Int) / 4096 % 16)=(o:Int) / 4096 % 16:=by rw [IntKind.wrap_i64];omega
 go_enter Tryz.func268,Tryz.ntmps268
 go_wp2
 go_ret
 exact ⟨ret_int (by unfold fg;simp only [Nat.reduceMul,Nat.reduceSub,Nat.reducePow];omega),rfl⟩
theorem figure_13 (o:Nat) (ho:o < 18446744073709551616) (w:World):Calls Tryz.prog 268 #[.int .u64 o,.int .i64 13] w fun e w'=>e=.returned (.int .i64 (fg o 13))∧w'=w:=by
 have hA:bits .and .u64 ((o:Int) / 256) 15=(o:Int) / 256 % 16:=and15 _ (by omega) (by omega)
 have hw:IntKind.i64.wrap ((o:Int) / 256 % 16)=(o:Int) / 256 % 16:=by rw [IntKind.wrap_i64];omega
 go_enter Tryz.func268,Tryz.ntmps268
 go_wp2
 go_ret
 exact ⟨ret_int (by unfold fg;simp only [Nat.reduceMul,Nat.reduceSub,Nat.reducePow];omega),rfl⟩
theorem figure_14 (o:Nat) (ho:o < 18446744073709551616) (w:World):Calls Tryz.prog 268 #[.int .u64 o,.int .i64 14] w fun e w'=>e=.returned (.int .i64 (fg o 14))∧w'=w:=by
 have hA:bits .and .u64 ((o:Int) / 16) 15=(o:Int) / 16 % 16:=and15 _ (by omega) (by omega)
 have hw:IntKind.i64.wrap ((o:Int) / 16 % 16)=(o:Int) / 16 % 16:=by rw [IntKind.wrap_i64];omega
 go_enter Tryz.func268,Tryz.ntmps268
 go_wp2
 go_ret
 exact ⟨ret_int (by unfold fg;simp only [Nat.reduceMul,Nat.reduceSub,Nat.reducePow];omega),rfl⟩
theorem figure_15 (o:Nat) (ho:o < 18446744073709551616) (w:World):Calls Tryz.prog 268 #[.int .u64 o,.int .i64 15] w fun e w'=>e=.returned (.int .i64 (fg o 15))∧w'=w:=by
 have hA:bits .and .u64 ((o:Int)) 15=(o:Int) % 16:=and15 _ (by omega) (by omega)
 have hw:IntKind.i64.wrap ((o:Int) % 16)=(o:Int) % 16:=by rw [IntKind.wrap_i64];omega
 go_enter Tryz.func268,Tryz.ntmps268
 go_wp2
 go_ret
 exact ⟨ret_int (by unfold fg;simp only [Nat.reduceMul,Nat.reduceSub,Nat.reducePow];omega),rfl⟩
theorem figure_of (o i:Nat) (ho:o < 18446744073709551616) (hi:i < 16) (w:World):Calls Tryz.prog 268 #[.int .u64 o,.int .i64 i] w fun e w'=>e=.returned (.int .i64 (fg o i))∧w'=w:=by
 have hc:i=0∨i=1∨i=2∨i=3∨i=4∨i=5∨i=6∨i=7∨i=8∨i=9∨i=10∨i=11∨i=12∨i=13∨i=14∨i=15:=by omega
 rcases hc with rfl | rfl | rfl | rfl | rfl | rfl | rfl | rfl | rfl | rfl | rfl | rfl | rfl | rfl | rfl | rfl
 ·exact figure_0 o ho w
 ·exact figure_1 o ho w
 ·exact figure_2 o ho w
 ·exact figure_3 o ho w
 ·exact figure_4 o ho w
 ·exact figure_5 o ho w
 ·exact figure_6 o ho w
 ·exact figure_7 o ho w
 ·exact figure_8 o ho w
 ·exact figure_9 o ho w
 ·exact figure_10 o ho w
 ·exact figure_11 o ho w
 ·exact figure_12 o ho w
 ·exact figure_13 o ho w
 ·exact figure_14 o ho w
 ·exact figure_15 o ho w
def Z8:List Int:=List.replicate 8 0
def Z16:List Int:=List.replicate 16 0
def bt (B:List UInt8) (i:Nat):Nat:=(B.getD i 0).toNat
theorem bt_lt (B:List UInt8) (i:Nat):bt B i < 256:=(B.getD i 0).toNat_lt
theorem bt_eq (B:List UInt8) (i:Nat) (h:i < B.length):B[i].toNat=bt B i:=by simp [bt,h]
def wd (B:List UInt8) (i:Nat):Int:=((bt B (4*i)+256*bt B (4*i+1)+65536*bt B (4*i+2)+16777216*bt B (4*i+3):Nat):Int)
def mp (B:List UInt8) (k:Nat):List Int:=(List.range 16).map fun i=>if i < k then wd B i else 0
theorem mp_len (B:List UInt8) (k:Nat):(mp B k).length=16:=by simp [mp]
theorem mp_set (B:List UInt8) (k:Nat):(mp B k).set k (wd B k)=mp B (k+1):=by
 apply List.ext_getElem
 ·simp [mp]
 ·intro i h1 h2
  simp only [List.getElem_set,mp,List.getElem_map,List.getElem_range]
  by_cases h:k=i
  ·subst h;simp
  ·rw [if_neg h]
   by_cases h3:i < k
   ·rw [if_pos h3,if_pos (by omega)]
   ·rw [if_neg h3,if_neg (by omega)]
def wdc (B:List UInt8) (q:Nat):Nat→Int
 | 0=>0
 | 1=>(bt B (4*q):Nat)
 | 2=>(bt B (4*q)+256*bt B (4*q+1):Nat)
 | _=>(bt B (4*q)+256*bt B (4*q+1)+65536*bt B (4*q+2):Nat)
def mq (B:List UInt8) (q c:Nat):List Int:=(mp B q).set q (wdc B q c)
theorem mq_len (B:List UInt8) (q c:Nat):(mq B q c).length=16:=by simp [mq,mp_len]
theorem mq_at (B:List UInt8) (q c:Nat) (h:q < 16):at_ (mq B q c) q=wdc B q c:=at_set_same _ _ _ (by rw [mp_len];exact h)
theorem mq_set (B:List UInt8) (q c:Nat) (x:Int):(mq B q c).set q x=(mp B q).set q x:=by simp [mq]
theorem mq_zero (B:List UInt8) (q:Nat):mq B q 0=mp B q:=by
 apply List.ext_getElem
 ·simp [mq]
 ·intro i h1 h2
  simp only [mq,List.getElem_set]
  by_cases h:q=i
  ·subst h;simp [mp,wdc]
  ·rw [if_neg h]
theorem or_part (i:Nat) (hi:i≤24) (x y:Nat) (hx:x < 2 ^ i) (hy:y < 256):bits .or .u32 (x:Int) ((y*2 ^ i:Nat):Int)=((x+y*2 ^ i:Nat):Int):=by
 have hp:(2:Nat) ^ i≤2 ^ 24:=Nat.pow_le_pow_right (by decide) hi
 have hp0:0 < (2:Nat) ^ i:=Nat.two_pow_pos i
 have hym:y*2 ^ i < 4294967296:=by
  have:y*2 ^ i≤255*2 ^ 24:=Nat.mul_le_mul (by omega) hp
  omega
 rw [u32_or_nat _ _ (by omega) hym]
 have h:=Nat.two_pow_add_eq_or_of_lt hx y
 rw [Nat.or_comm,Nat.mul_comm y,← h];omega
theorem wdc_step (B:List UInt8) (q:Nat):bits .or .u32 (wdc B q 0) ((bt B (4*q):Nat):Int)=wdc B q 1∧bits .or .u32 (wdc B q 1) (((bt B (4*q+1):Nat):Int)*256)=wdc B q 2∧bits .or .u32 (wdc B q 2) (((bt B (4*q+2):Nat):Int)*65536)=wdc B q 3∧bits .or .u32 (wdc B q 3) (((bt B (4*q+3):Nat):Int)*16777216)=wd B q:=by
 have h0:=bt_lt B (4*q)
 have h1:=bt_lt B (4*q+1)
 have h2:=bt_lt B (4*q+2)
 have h3:=bt_lt B (4*q+3)
 refine ⟨?_,?_,?_,?_⟩
 ·have:=or_part 0 (by decide) 0 (bt B (4*q)) (by decide) h0
  simpa [wdc] using this
 ·have:=or_part 8 (by decide) (bt B (4*q)) (bt B (4*q+1)) (by omega) h1
  show bits .or .u32 ((bt B (4*q):Nat):Int) _=((bt B (4*q)+256*bt B (4*q+1):Nat):Int)
  rw [show ((bt B (4*q+1):Nat):Int)*256=((bt B (4*q+1)*2 ^ 8:Nat):Int) by omega,this];omega
 ·have:=or_part 16 (by decide) (bt B (4*q)+256*bt B (4*q+1)) (bt B (4*q+2)) (by omega) h2
  show bits .or .u32 ((bt B (4*q)+256*bt B (4*q+1):Nat):Int) _=((bt B (4*q)+256*bt B (4*q+1)+65536*bt B (4*q+2):Nat):Int)
  rw [show ((bt B (4*q+2):Nat):Int)*65536=((bt B (4*q+2)*2 ^ 16:Nat):Int) by omega,this];omega
 ·have:=or_part 24 (by decide) (bt B (4*q)+256*bt B (4*q+1)+65536*bt B (4*q+2)) (bt B (4*q+3)) (by omega) h3
  show bits .or .u32 ((bt B (4*q)+256*bt B (4*q+1)+65536*bt B (4*q+2):Nat):Int) _=((bt B (4*q)+256*bt B (4*q+1)+65536*bt B (4*q+2)+16777216*bt B (4*q+3):Nat):Int)
  rw [show ((bt B (4*q+3):Nat):Int)*16777216=((bt B (4*q+3)*2 ^ 24:Nat):Int) by omega,this];omega
def sp (H:List Int) (k:Nat):List Int:=(List.range 16).map fun i=>if i < 8 then (if i < k then at_ H i else 0) else (if i - 8 < k then at_ firstL (i - 8) else 0)
theorem sp_len (H:List Int) (k:Nat):(sp H k).length=16:=by simp [sp]
theorem sp_set (H:List Int) (k:Nat) (hk:k < 8):((sp H k).set k (at_ H k)).set (k+8) (at_ firstL k)=sp H (k+1):=by
 apply List.ext_getElem
 ·simp [sp]
 ·intro i h1 h2
  simp only [List.getElem_set,sp,List.getElem_map,List.getElem_range]
  by_cases h8:k+8=i
  ·subst h8
   rw [if_pos rfl,if_neg (by omega),if_pos (by omega),Nat.add_sub_cancel]
  ·rw [if_neg h8]
   by_cases h:k=i
   ·subst h
    rw [if_pos rfl,if_pos hk,if_pos (by omega)]
   ·rw [if_neg h]
    by_cases hi:i < 8
    ·rw [if_pos hi,if_pos hi]
     by_cases h3:i < k
     ·rw [if_pos h3,if_pos (by omega)]
     ·rw [if_neg h3,if_neg (by omega)]
    ·rw [if_neg hi,if_neg hi]
     by_cases h3:i - 8 < k
     ·rw [if_pos h3,if_pos (by omega)]
     ·rw [if_neg h3,if_neg (by omega)]
def spreadL (H:List Int) (t:Nat) (last:Bool):List Int :=
 let V:=((sp H 8).set 12 (bits .xor .u32 (at_ (sp H 8) 12) ((t:Int) % 4294967296))).set 13 (bits .xor .u32 (at_ (sp H 8) 13) ((t:Int) / 4294967296))
 if last then V.set 14 (bits .xor .u32 (at_ (sp H 8) 14) 4294967295) else V
theorem spreadL_len (H:List Int) (t:Nat) (last:Bool):(spreadL H t last).length=16:=by
 unfold spreadL
 cases last<;>simp [sp_len]
attribute [local go_sem] ba_size ba_get ba_extract ba_append wrap_byte wrap_u64_byte take_drop_end wrap_u32_byte wv_get wv_getE wv_set wv_size
set_option maxHeartbeats 1000000 in
theorem words_any (B:List UInt8) (hB:B.length=64) (w:World) :
 Calls Tryz.prog 265 #[.string ⟨B.toArray⟩] w fun e w'=>e=.returned (.agg (wv (mp B 16)))∧Below w.heap.size w w':=by
 go_enter Tryz.func265,Tryz.ntmps265
 go_wp2
 go_loopw [7] (fun i wr=>∃ q c:Nat,q≤16∧c < 4∧(q=16→c=0)∧i=.int .i64 ((4*q+c:Nat):Int)∧Hid (Row wr w.heap.size 292 Z16)∧Hid (Row wr (w.heap.size+1) 292 (mq B q c))∧Hid (wr.heap.size=w.heap.size+2)∧Below w.heap.size w wr) (fun i _=>64 - (RowKit.intOf i).toNat)
 case atStart =>
  refine ⟨0,0,by omega,by omega,by omega,rfl,?_,?_,?_,((Below.refl _ _).alloc (Nat.le_refl _) _).alloc (by simp) _⟩
  ·exact heap_alloc2_old w _ _
  ·exact heap_alloc2_new w _ _
  ·show _=_
   simp
 case round =>
  obtain ⟨q,c,hq,hc,hqc,rfl,HR1,HR2,HS,hbw⟩:=hrel
  by_cases hlt:q < 16
  ·have hl:=mq_len B q c
   have c3:wr.cell? ⟨w.heap.size+1,q,none⟩=some (.int .u32 (wdc B q c)):=by rw [HR2.out.cell q (by omega),at_eq,mq_at B q c hlt]
   have f3:=HR2.out.frozen q
   have hcc:c=0∨c=1∨c=2∨c=3:=by omega
   have wq:IntKind.i64.wrap (q:Int)=q:=by rw [IntKind.wrap_i64];omega
   have iq:(q:Int) < 16:=by omega
   rcases hcc with rfl | rfl | rfl | rfl
   ·have hk:4*(q:Int) < 64:=by omega
    have hp:(0:Int)≤4*(q:Int):=by omega
    have tq:(4*(q:Int)).tdiv 4=q:=by rw [Int.tdiv_eq_ediv_of_nonneg hp];omega
    have tm:(4*(q:Int)).tmod 4=0:=by rw [Int.tmod_eq_emod_of_nonneg hp];omega
    have w8:IntKind.i64.wrap 0=0∧IntKind.i64.wrap 8=8∧IntKind.i64.wrap 16=16∧IntKind.i64.wrap 24=24:=by decide +kernel
    obtain ⟨w80,w81,w82,w83⟩:=w8
    have tn:(4*(q:Int)).toNat=4*q:=by omega
    have b0:=B[4*q].toNat_lt
    have s0:IntKind.u32.wrap ((B[4*q].toNat:Int)*1)=(B[4*q].toNat:Int)*1:=by rw [IntKind.wrap_u32'];omega
    go_wp2
    refine region_tail 14 (by kernel_rfl) (by kernel_rfl) ?_
    simp only [List.take_succ_cons,List.take_zero,List.drop_succ_cons,List.drop_zero]
    repeat still_step
    refine wpStill_nil ?_
    go_wp2
    go_roundw
    case rel =>
     have hv:bits .or .u32 (wdc B q 0) (B[4*q].toNat:Int)=wdc B q 1:=by rw [bt_eq B _ (by omega)];exact (wdc_step B q).1
     rw [hv]
     refine ⟨q,1,by omega,by omega,by omega,by go_num,(HR1.out.other _ _ _ (by omega)).drew,?_,?_,(hbw.setCell (by simp) _).drew⟩
     ·show Row _ _ _ ((mp B q).set q (wdc B q 1))
      rw [← mq_set B q 0]
      exact (HR2.out.set q _).drew
     ·have:=HS.out
      show _=_
      simpa using this
    case measure=>simp [RowKit.intOf];omega
   ·have hk:4*(q:Int)+1 < 64:=by omega
    have hp:(0:Int)≤4*(q:Int)+1:=by omega
    have tq:(4*(q:Int)+1).tdiv 4=q:=by rw [Int.tdiv_eq_ediv_of_nonneg hp];omega
    have tm:(4*(q:Int)+1).tmod 4=1:=by rw [Int.tmod_eq_emod_of_nonneg hp];omega
    have w8:IntKind.i64.wrap 0=0∧IntKind.i64.wrap 8=8∧IntKind.i64.wrap 16=16∧IntKind.i64.wrap 24=24:=by decide +kernel
    obtain ⟨w80,w81,w82,w83⟩:=w8
    have tn:(4*(q:Int)+1).toNat=4*q+1:=by omega
    have b0:=B[4*q+1].toNat_lt
    have s0:IntKind.u32.wrap ((B[4*q+1].toNat:Int)*256)=(B[4*q+1].toNat:Int)*256:=by rw [IntKind.wrap_u32'];omega
    go_wp2
    refine region_tail 14 (by kernel_rfl) (by kernel_rfl) ?_
    simp only [List.take_succ_cons,List.take_zero,List.drop_succ_cons,List.drop_zero]
    repeat still_step
    refine wpStill_nil ?_
    go_wp2
    go_roundw
    case rel =>
     have hv:bits .or .u32 (wdc B q 1) ((B[4*q+1].toNat:Int)*256)=wdc B q 2:=by rw [bt_eq B _ (by omega)];exact (wdc_step B q).2.1
     rw [hv]
     refine ⟨q,2,by omega,by omega,by omega,by go_num,(HR1.out.other _ _ _ (by omega)).drew,?_,?_,(hbw.setCell (by simp) _).drew⟩
     ·show Row _ _ _ ((mp B q).set q (wdc B q 2))
      rw [← mq_set B q 1]
      exact (HR2.out.set q _).drew
     ·have:=HS.out
      show _=_
      simpa using this
    case measure=>simp [RowKit.intOf];omega
   ·have hk:4*(q:Int)+2 < 64:=by omega
    have hp:(0:Int)≤4*(q:Int)+2:=by omega
    have tq:(4*(q:Int)+2).tdiv 4=q:=by rw [Int.tdiv_eq_ediv_of_nonneg hp];omega
    have tm:(4*(q:Int)+2).tmod 4=2:=by rw [Int.tmod_eq_emod_of_nonneg hp];omega
    have w8:IntKind.i64.wrap 0=0∧IntKind.i64.wrap 8=8∧IntKind.i64.wrap 16=16∧IntKind.i64.wrap 24=24:=by decide +kernel
    obtain ⟨w80,w81,w82,w83⟩:=w8
    have tn:(4*(q:Int)+2).toNat=4*q+2:=by omega
    have b0:=B[4*q+2].toNat_lt
    have s0:IntKind.u32.wrap ((B[4*q+2].toNat:Int)*65536)=(B[4*q+2].toNat:Int)*65536:=by rw [IntKind.wrap_u32'];omega
    go_wp2
    refine region_tail 14 (by kernel_rfl) (by kernel_rfl) ?_
    simp only [List.take_succ_cons,List.take_zero,List.drop_succ_cons,List.drop_zero]
    repeat still_step
    refine wpStill_nil ?_
    go_wp2
    go_roundw
    case rel =>
     have hv:bits .or .u32 (wdc B q 2) ((B[4*q+2].toNat:Int)*65536)=wdc B q 3:=by rw [bt_eq B _ (by omega)];exact (wdc_step B q).2.2.1
     rw [hv]
     refine ⟨q,3,by omega,by omega,by omega,by go_num,(HR1.out.other _ _ _ (by omega)).drew,?_,?_,(hbw.setCell (by simp) _).drew⟩
     ·show Row _ _ _ ((mp B q).set q (wdc B q 3))
      rw [← mq_set B q 2]
      exact (HR2.out.set q _).drew
     ·have:=HS.out
      show _=_
      simpa using this
    case measure=>simp [RowKit.intOf];omega
   ·have hk:4*(q:Int)+3 < 64:=by omega
    have hp:(0:Int)≤4*(q:Int)+3:=by omega
    have tq:(4*(q:Int)+3).tdiv 4=q:=by rw [Int.tdiv_eq_ediv_of_nonneg hp];omega
    have tm:(4*(q:Int)+3).tmod 4=3:=by rw [Int.tmod_eq_emod_of_nonneg hp];omega
    have w8:IntKind.i64.wrap 0=0∧IntKind.i64.wrap 8=8∧IntKind.i64.wrap 16=16∧IntKind.i64.wrap 24=24:=by decide +kernel
    obtain ⟨w80,w81,w82,w83⟩:=w8
    have tn:(4*(q:Int)+3).toNat=4*q+3:=by omega
    have b0:=B[4*q+3].toNat_lt
    have s0:IntKind.u32.wrap ((B[4*q+3].toNat:Int)*16777216)=(B[4*q+3].toNat:Int)*16777216:=by rw [IntKind.wrap_u32'];omega
    go_wp2
    refine region_tail 14 (by kernel_rfl) (by kernel_rfl) ?_
    simp only [List.take_succ_cons,List.take_zero,List.drop_succ_cons,List.drop_zero]
    repeat still_step
    refine wpStill_nil ?_
    go_wp2
    go_roundw
    case rel =>
     have hv:bits .or .u32 (wdc B q 3) ((B[4*q+3].toNat:Int)*16777216)=wd B q:=by rw [bt_eq B _ (by omega)];exact (wdc_step B q).2.2.2
     rw [hv]
     refine ⟨q+1,0,by omega,by omega,by omega,by go_num,(HR1.out.other _ _ _ (by omega)).drew,?_,?_,(hbw.setCell (by simp) _).drew⟩
     ·rw [mq_zero,← mp_set,← mq_set B q 3]
      exact (HR2.out.set q _).drew
     ·have:=HS.out
      show _=_
      simpa using this
    case measure=>simp [RowKit.intOf];omega
  ·obtain rfl:q=16:=by omega
   obtain rfl:c=0:=hqc rfl
   rw [mq_zero] at HR2
   have hsz:(Tryz.prog.info? 292).map (·.size)=some 16:=by kernel_rfl
   have r1:wr.heap[w.heap.size]?=some (.cells (wv Z16) 292 (0,0)):=HR1.out
   have r2:wr.heap[w.heap.size+1]?=some (.cells (wv (mp B 16)) 292 (0,0)):=HR2.out
   go_wp2_with (first | (refine wpList_load_row rfl 292 _ rfl (w.heap.size+1) rfl 292 (wv (mp B 16)) (0,0) _ ?hg Tryz.underlying292 rfl ?hi ?_) | (refine wpList_store_row rfl 292 _ _ rfl w.heap.size (wv (mp B 16)) rfl rfl 292 (wv Z16) ?hg2 ?hi2 ?ho2 ?h12 ?_))
   case hi=>simp [mp_len]
   case hi2=>simp [mp_len]
   case ho2=>simp [mp_len,Z16]
   case h12=>exact wv_one _
   refine bodyPost_ret (v:=.agg (wv (mp B 16))) (results_cell_row Tryz.results265 _ _ w.heap.size 292 (wv (mp B 16)) (0,0) _ rfl ?_ Tryz.underlying292 rfl ?_) rfl ⟨rfl,?_⟩
   ·exact setRow_heap _ _ _ _ _ _ r1
   ·rw [hsz,wv_size,mp_len]
   ·exact below_setRow hbw (Nat.le_refl _) _
end Go.Proofs.YtkkenfhlgpjmjaaGreatDoor
namespace Go.Proofs.YtkkenfhlgpjmjaaGreatDoor
set_option maxRecDepth 100000
open Go.RowKit
set_option linter.unusedVariables false
attribute [local go_sem] wv_get wv_getE wv_set wv_size
set_option maxRecDepth 100000 in
set_option maxHeartbeats 1000000 in
theorem spread_any (H:List Int) (hH:H.length=8) (t:Nat) (ht:t < 18446744073709551616) (last:Bool) (w:World) (hG:G w) :
 Calls Tryz.prog 266 #[.agg (wv H),.int .u64 t,.bool last] w fun e w'=>e=.returned (.agg (wv (spreadL H t last)))∧Below w.heap.size w w':=by
 have hHs:(wv H).size=8:=by rw [wv_size,hH]
 go_enter Tryz.func266,Tryz.ntmps266
 go_wp2
 go_loopw [9] (fun i wr=>∃ k:Nat,k≤8∧i=.int .i64 k∧Hid (Row wr w.heap.size 194 H)∧Hid (Row wr (w.heap.size+1) 292 Z16)∧Hid (Row wr (w.heap.size+1+1) 292 (sp H k))∧Hid (wr.heap.size=w.heap.size+3)∧Below w.heap.size w wr) (fun i _=>8 - (RowKit.intOf i).toNat)
 case atStart =>
  refine ⟨0,by omega,rfl,?_,?_,?_,?_,(((Below.refl _ _).alloc (Nat.le_refl _) _).alloc (by simp) _).alloc (by simp;omega) _⟩
  ·exact ((Row.new w H 194).alloc _).alloc _
  ·exact (heap_alloc_old _ _ (by simp)).trans (heap_alloc2_new w _ _)
  ·have h:=heap_alloc_new ((w.alloc (.cells (wv H) 194)).alloc (.cells (wv Z16) 292)) (.cells (wv (sp H 0)) 292)
   simp only [World.size_alloc] at h
   exact h
  ·show _=_
   simp
 case round =>
  obtain ⟨k,hk,rfl,HR1,HR2,HR3,HS,hbw⟩:=hrel
  by_cases hlt:k < 8
  ·have i0:(k:Int) < 8:=by omega
   have hGr:G wr:=hG.below hbw hG.size
   have c0:=hGr.first k hlt
   have c1:wr.cell? ⟨w.heap.size,k,none⟩=some (.int .u32 (at_ H k)):=by rw [HR1.out.cell k (by omega),at_eq]
   have hl3:=sp_len H k
   have c3:wr.cell? ⟨w.heap.size+1+1,k,none⟩=some (.int .u32 (at_ (sp H k) k)):=by rw [HR3.out.cell k (by omega),at_eq]
   have f3:=HR3.out.frozen k
   have c4:wr.cell? ⟨w.heap.size+1+1,k+8,none⟩=some (.int .u32 (at_ (sp H k) (k+8))):=by rw [HR3.out.cell (k+8) (by omega),at_eq]
   have f4:=HR3.out.frozen (k+8)
   go_wp2
   go_roundw
   case rel =>
    refine ⟨k+1,by omega,by go_num,(HR1.out.other _ _ _ (by omega)).other _ _ _ (by omega),(HR2.out.other _ _ _ (by omega)).other _ _ _ (by omega),?_,?_,(hbw.setCell (by simp;omega) _).setCell (by simp;omega) _⟩
    ·rw [← sp_set H k hlt]
     exact (HR3.out.set k _).set (k+8) _
    ·have:=HS.out
     show _=_
     simpa using this
   case measure=>simp [RowKit.intOf];omega
  ·obtain rfl:k=8:=by omega
   have hl3:=sp_len H 8
   have c12:wr.cell? ⟨w.heap.size+1+1,12,none⟩=some (.int .u32 (at_ (sp H 8) 12)):=by rw [HR3.out.cell 12 (by omega),at_eq]
   have c13:wr.cell? ⟨w.heap.size+1+1,13,none⟩=some (.int .u32 (at_ (sp H 8) 13)):=by rw [HR3.out.cell 13 (by omega),at_eq]
   have c14:wr.cell? ⟨w.heap.size+1+1,14,none⟩=some (.int .u32 (at_ (sp H 8) 14)):=by rw [HR3.out.cell 14 (by omega),at_eq]
   have f12:=HR3.out.frozen 12
   have f13:=HR3.out.frozen 13
   have f14:=HR3.out.frozen 14
   have hsz:(Tryz.prog.info? 292).map (·.size)=some 16:=by kernel_rfl
   cases last with
   | true =>
     obtain ⟨X,hX⟩:∃ X,(((sp H 8).set 12 (bits .xor .u32 (at_ (sp H 8) 12) ((t:Int) % 4294967296))).set 13 (bits .xor .u32 (at_ (sp H 8) 13) ((t:Int) / 4294967296))).set 14 (bits .xor .u32 IntKind.u32.max (at_ (sp H 8) 14))=X:=⟨_,rfl⟩
     have hlX:X.length=16:=by rw [← hX];simp [sp_len]
     have hXs:spreadL H t true=X:=by
      rw [← hX]
      unfold spreadL
      rw [if_pos rfl,xor_comm32 (at_ (sp H 8) 14)]
      rfl
     go_wp2_with (first | (refine wpList_load_row rfl 292 _ rfl (w.heap.size+1+1) rfl 292 (wv X) (0,0) _ ?hg Tryz.underlying292 rfl ?hi ?_) | (refine wpList_store_row rfl 292 _ _ rfl (w.heap.size+1) (wv X) rfl rfl 292 (wv Z16) ?hg2 ?hi2 ?ho2 ?h12 ?_))
     case hg=>rw [← hX];exact ((HR3.out.set 12 _).set 13 _).set 14 _
     case hi=>rw [hsz,wv_size,hlX]
     case hg2=>exact ((HR2.out.other _ _ _ (by omega)).other _ _ _ (by omega)).other _ _ _ (by omega)
     case hi2=>rw [hsz,wv_size,hlX]
     case ho2=>rw [wv_size,wv_size,hlX];rfl
     case h12=>exact wv_one _
     refine bodyPost_ret (v:=.agg (wv X)) (results_cell_row Tryz.results266 _ _ (w.heap.size+1) 292 (wv X) (0,0) _ rfl ?_ Tryz.underlying292 rfl ?_) rfl ⟨by first | rfl | rw [hXs],?_⟩
     ·exact setRow_heap _ _ _ _ _ _ (((HR2.out.other _ _ _ (by omega)).other _ _ _ (by omega)).other _ _ _ (by omega))
     ·rw [hsz,wv_size,hlX]
     ·exact below_setRow (((hbw.setCell (by simp;omega) _).setCell (by simp;omega) _).setCell (by simp;omega) _) (by omega) _
   | false =>
     obtain ⟨X,hX⟩:∃ X,((sp H 8).set 12 (bits .xor .u32 (at_ (sp H 8) 12) ((t:Int) % 4294967296))).set 13 (bits .xor .u32 (at_ (sp H 8) 13) ((t:Int) / 4294967296))=X:=⟨_,rfl⟩
     have hlX:X.length=16:=by rw [← hX];simp [sp_len]
     have hXs:spreadL H t false=X:=by
      rw [← hX]
      rfl
     go_wp2_with (first | (refine wpList_load_row rfl 292 _ rfl (w.heap.size+1+1) rfl 292 (wv X) (0,0) _ ?hgF Tryz.underlying292 rfl ?hiF ?_) | (refine wpList_store_row rfl 292 _ _ rfl (w.heap.size+1) (wv X) rfl rfl 292 (wv Z16) ?hg2F ?hi2F ?ho2F ?h12F ?_))
     case hgF=>rw [← hX];exact (HR3.out.set 12 _).set 13 _
     case hiF=>rw [hsz,wv_size,hlX]
     case hg2F=>exact (HR2.out.other _ _ _ (by omega)).other _ _ _ (by omega)
     case hi2F=>rw [hsz,wv_size,hlX]
     case ho2F=>rw [wv_size,wv_size,hlX];rfl
     case h12F=>exact wv_one _
     refine bodyPost_ret (v:=.agg (wv X)) (results_cell_row Tryz.results266 _ _ (w.heap.size+1) 292 (wv X) (0,0) _ rfl ?_ Tryz.underlying292 rfl ?_) rfl ⟨by first | rfl | rw [hXs],?_⟩
     ·exact setRow_heap _ _ _ _ _ _ ((HR2.out.other _ _ _ (by omega)).other _ _ _ (by omega))
     ·rw [hsz,wv_size,hlX]
     ·exact below_setRow ((hbw.setCell (by simp;omega) _).setCell (by simp;omega) _) (by omega) _
end Go.Proofs.YtkkenfhlgpjmjaaGreatDoor
namespace Go.Proofs.YtkkenfhlgpjmjaaGreatDoor
set_option maxRecDepth 100000
open Go.RowKit
set_option linter.unusedVariables false
def vr (B:List UInt8) (V:List Int):Nat→List Int
 | 0=>V
 | r+1=>rk (mp B 16) (vr B V r) (sg r) 8
theorem vr_len (B:List UInt8) (V:List Int) (h:V.length=16) (r:Nat):(vr B V r).length=16:=by
 induction r with
 | zero=>exact h
 | succ r ih=>exact rk_len _ _ _ ih 8
def hx (H V:List Int) (k:Nat):List Int:=(List.range 8).map fun i=>if i < k then bits .xor .u32 (at_ H i) (bits .xor .u32 (at_ V i) (at_ V (i+8))) else at_ H i
theorem hx_len (H V:List Int) (k:Nat):(hx H V k).length=8:=by simp [hx]
theorem hx_at (H V:List Int) (k:Nat) (h:k < 8):at_ (hx H V k) k=at_ H k:=by
 have e:at_ (hx H V k) k=(hx H V k)[k]'(by rw [hx_len];exact h):=(at_eq _ _ _).symm
 rw [e]
 simp [hx]
theorem hx_zero (H V:List Int) (h:H.length=8):hx H V 0=H:=by
 apply List.ext_getElem
 ·simp [hx,h]
 ·intro i h1 h2
  simp [hx,at_,h2]
theorem hx_set (H V:List Int) (k:Nat) (x:Int) (hx':x=bits .xor .u32 (at_ H k) (bits .xor .u32 (at_ V k) (at_ V (k+8)))):(hx H V k).set k x=hx H V (k+1):=by
 subst hx'
 apply List.ext_getElem
 ·simp [hx]
 ·intro i h1 h2
  simp only [List.getElem_set,hx,List.getElem_map,List.getElem_range]
  by_cases h:k=i
  ·subst h;simp
  ·rw [if_neg h]
   by_cases h3:i < k
   ·rw [if_pos h3,if_pos (by omega)]
   ·rw [if_neg h3,if_neg (by omega)]
def blockL (H:List Int) (B:List UInt8) (t:Nat) (last:Bool):List Int:=hx H (vr B (spreadL H t last) 10) 8
theorem blockL_len (H:List Int) (B:List UInt8) (t:Nat) (last:Bool):(blockL H B t last).length=8:=hx_len _ _ _
attribute [local go_sem] wv_get wv_getE wv_set wv_size
def startL (k:Int):List Int:=firstL.set 0 (bits .xor .u32 (at_ firstL 0) (bits .xor .u32 16842784 (256*k)))
theorem psize8:(Tryz.prog.info? 194).map (·.size)=some 8:=by kernel_rfl
set_option maxHeartbeats 1000000 in
theorem start_bad (k:Int) (hk:k < 0∨32 < k) (w:World) :
 Calls Tryz.prog 154 #[.int .i64 k] w fun e w'=>e=.returned (.tuple #[.agg (wv Z8),.int .i64 1])∧Below w.heap.size w w':=by
 rcases hk with hk | hk
 ·go_enter Tryz.func154,Tryz.ntmps154
  go_wp2
  refine bodyPost_ret (v:=.tuple #[.agg (wv Z8),.int .i64 1]) (results_row_tmp Tryz.results154 _ _ w.heap.size 194 (wv Z8) (0,0) _ rfl ?_ Tryz.underlying194 rfl ?_) rfl ⟨rfl,?_⟩
  ·exact heap_alloc_new w _
  ·rw [psize8,wv_size];rfl
  ·exact (Below.refl _ _).alloc (Nat.le_refl _) _
 ·have h0:¬ k < 0:=by omega
  go_enter Tryz.func154,Tryz.ntmps154
  go_wp2
  refine bodyPost_ret (v:=.tuple #[.agg (wv Z8),.int .i64 1]) (results_row_tmp Tryz.results154 _ _ w.heap.size 194 (wv Z8) (0,0) _ rfl ?_ Tryz.underlying194 rfl ?_) rfl ⟨rfl,?_⟩
  ·exact heap_alloc_new w _
  ·rw [psize8,wv_size];rfl
  ·exact (Below.refl _ _).alloc (Nat.le_refl _) _
set_option maxHeartbeats 1000000 in
theorem start_good (k:Int) (h0:0≤k) (h1:k≤32) (w:World) (hG:G w) :
 Calls Tryz.prog 154 #[.int .i64 k] w fun e w'=>e=.returned (.tuple #[.agg (wv (startL k)),.int .i64 0])∧Below w.heap.size w w':=by
 have hg3:=hG.size
 obtain ⟨tg,hg⟩:=hG.g0
 go_enter Tryz.func154,Tryz.ntmps154
 go_upto_region 4 with (first | (refine wpList_load_row rfl 194 _ rfl 0 rfl tg (wv firstL) (0,0) _ ?hg1 Tryz.underlying194 rfl ?hi1 ?_) | (refine wpList_store_row rfl 194 _ _ rfl (w.heap.size+1) (wv firstL) rfl rfl 194 (wv Z8) ?hg2 ?hi2 ?ho2 ?h12 ?_))
 case hg1=>exact (heap_alloc_old w _ (by omega)).trans hg
 case hi1=>rw [psize8,wv_size];rfl
 case hg2=>exact heap_alloc2_new w _ _
 case hi2=>rw [psize8,wv_size];rfl
 case ho2=>rfl
 case h12=>exact wv_one _
 change Code.wp _ _ _ _ (((w.alloc (.cells (wv Z8) 194)).alloc (.cells (wv Z8) 194)).setRow (w.heap.size+1) (wv firstL))
 obtain ⟨w2,hw2⟩:∃ w2,((w.alloc (.cells (wv Z8) 194)).alloc (.cells (wv Z8) 194)).setRow (w.heap.size+1) (wv firstL)=w2:=⟨_,rfl⟩
 have hL2:Row w2 (w.heap.size+1) 194 firstL:=by rw [← hw2];exact setRow_heap _ _ _ _ _ _ (heap_alloc2_new w _ _)
 have hZ2:Row w2 w.heap.size 194 Z8:=by rw [← hw2];exact Row.setRow_other (V:=Z8) (heap_alloc2_old w _ _) _ _ (by omega)
 have hbw2:Below w.heap.size w w2:=by rw [← hw2];exact below_setRow (((Below.refl _ _).alloc (Nat.le_refl _) _).alloc (by simp) _) (by omega) _
 rw [hw2]
 clear hw2
 have c0:w2.cell? ⟨w.heap.size+1,0,none⟩=some (.int .u32 (at_ firstL 0)):=by rw [hL2.cell 0 (by decide),at_eq]
 have f0:=hL2.frozen 0
 have x0:IntKind.i64.wrap (256*k)=256*k:=by rw [IntKind.wrap_i64];omega
 have x1:IntKind.u32.wrap (256*k)=256*k:=by rw [IntKind.wrap_u32'];omega
 obtain ⟨R,hR⟩:∃ R,startL k=R:=⟨_,rfl⟩
 have lR:R.length=8:=by rw [← hR];rfl
 go_wp2_with (first | (refine wpList_load_row rfl 194 _ rfl (w.heap.size+1) rfl 194 (wv R) (0,0) _ ?hg3 Tryz.underlying194 rfl ?hi3 ?_) | (refine wpList_store_row rfl 194 _ _ rfl w.heap.size (wv R) rfl rfl 194 (wv Z8) ?hg4 ?hi4 ?ho4 ?h14 ?_))
 case hg3=>rw [← hR];exact hL2.set 0 _
 case hi3=>rw [psize8,wv_size,lR]
 case hg4=>exact hZ2.other _ _ _ (by omega)
 case hi4=>rw [psize8,wv_size,lR]
 case ho4=>rw [wv_size,wv_size,lR];rfl
 case h14=>exact wv_one _
 refine bodyPost_ret (v:=.tuple #[.agg (wv R),.int .i64 0]) (results_row_tmp Tryz.results154 _ _ w.heap.size 194 (wv R) (0,0) _ rfl ?_ Tryz.underlying194 rfl ?_) rfl ⟨by first | rfl | rw [hR],?_⟩
 ·exact setRow_heap _ _ _ _ _ _ (hZ2.other _ _ _ (by omega))
 ·rw [psize8,wv_size,lR]
 ·exact below_setRow (hbw2.setCell (by simp) _) (by omega) _
end Go.Proofs.YtkkenfhlgpjmjaaGreatDoor
namespace Go.Proofs.YtkkenfhlgpjmjaaGreatDoor
set_option maxRecDepth 100000
open Go.RowKit
theorem strCells_list (l:List UInt8):Lib.strCells ⟨l.toArray⟩=Lib.byteCells l:=by
 simp [Lib.strCells,Lib.byteCells]
theorem byteCells_append (a b:List UInt8):Lib.byteCells a++Lib.byteCells b=Lib.byteCells (a++b):=by
 simp [Lib.byteCells]
set_option linter.unusedVariables false
def bv (l:List UInt8):Array Value:=(Lib.byteCells l).toArray
theorem bv_size (l:List UInt8):(bv l).size=l.length:=by simp [bv,Lib.byteCells]
theorem bv_get (l:List UInt8) (i:Nat) (h:i < l.length):(bv l)[i]?=some (.int .u8 ((l[i]'h).toNat:Int)):=by simp [bv,Lib.byteCells,h]
theorem bv_set (l:List UInt8) (i:Nat) (x:UInt8):(bv l).setIfInBounds i (.int .u8 (x.toNat:Int))=bv (l.set i x):=by simp [bv,Lib.byteCells]
def BRow (w:World) (g:Nat) (t:TypeId) (l:List UInt8):Prop:=w.heap[g]?=some (.cells (bv l) t (0,0))
theorem BRow.cell {w:World} {g:Nat} {t:TypeId} {l:List UInt8} (h:BRow w g t l) (i:Nat) (hi:i < l.length):w.cell? ⟨g,i,none⟩=some (.int .u8 ((l[i]'hi).toNat:Int)):=by
 rw [cell_of_row w g i _ _ _ h,bv_get l i hi]
theorem BRow.frozen {w:World} {g:Nat} {t:TypeId} {l:List UInt8} (h:BRow w g t l) (i:Nat):w.frozen? ⟨g,i,none⟩=false:=frozen_of_row w g i _ _ h
theorem BRow.set {w:World} {g:Nat} {t:TypeId} {l:List UInt8} (h:BRow w g t l) (i:Nat) (x:UInt8):BRow (w.setCell ⟨g,i,none⟩ (.int .u8 (x.toNat:Int))) g t (l.set i x):=by
 have:=heap_setCell_same w g i _ _ (.int .u8 (x.toNat:Int)) h
 unfold BRow
 rw [this,bv_set]
theorem BRow.string {P:Program} {w:World} {g:Nat} {t:TypeId} {l:List UInt8} (h:BRow w g t l) (src e dst:TypeId) (hs:P.underlying src=some (.slice e)) (he:P.underlying e=some (.int .u8)) (hd:P.underlying dst=some .string) (n cap:Nat) (hn:l.length=n) :
 (convert src dst (.slice (some ⟨g,0,none⟩) n cap)).run P w=.ok (.string ⟨l.toArray⟩) w:=by
 have:=run_convert_bytes_arg (P:=P) w src e hs he g 0 n cap (l.map fun b=>(b.toNat:Int)) (by simpa using hn) (fun i hi=>by
  rw [Nat.zero_add,h.cell i (by omega)]
  simp [show i < l.length by omega]) dst hd
 rw [this]
 have e:strOfNums (l.map fun b=>(b.toNat:Int))=⟨l.toArray⟩:=by
  apply ByteArray.ext
  show ((l.map fun b=>(b.toNat:Int)).map fun n=>UInt8.ofNat n.toNat).toArray=l.toArray
  rw [List.map_map]
  congr 1
  refine (List.map_congr_left fun b _=>?_).trans (List.map_id l)
  show UInt8.ofNat ((b.toNat:Int)).toNat=b
  simp
 rw [e]
theorem wpList_copy_str {P:Program} {w:World} {ops:Array Oper} {rest:List Oper} {o:Oper} {a:Act} {Q:Exit→Act→World→Prop} (hgd:o.guard=none) (d x:Operand) (dT sT:TypeId)
 (hop:o.op=Op.call { callee:=Callee.builtin Builtin.copy,args:=#[d,x],argTypes:=#[dT,sT] }) (elem:TypeId) (hu:P.underlying dT=some (.slice elem)) (hs:(P.info? elem).map (·.size)=some 1)
 (g dLen dCap:Nat) (hd:a.eval d=.slice (some ⟨g,0,none⟩) dLen dCap) (l m:List UInt8) (hx:a.eval x=.string ⟨m.toArray⟩) (t:TypeId) (hg:BRow w g t l) (h1:m.length≤dLen) (h2:m.length≤l.length)
 (h:wpList P ops Q rest (a.put o.dst (goInt m.length)) (w.setRow g (bv (m++l.drop m.length)))):wpList P ops Q (o::rest) a w:=by
 have hrun:=Lib.run_copy_row_string (P:=P) w dT sT o.type elem g 0 dLen dCap ⟨m.toArray⟩ (bv l) t hu hs hg (by rw [ba_size];exact h1) (by rw [ba_size,bv_size];omega)
 have e:((bv l).toList.take 0++Lib.byteCells (⟨m.toArray⟩:ByteArray).data.toList++(bv l).toList.drop (0+(⟨m.toArray⟩:ByteArray).size)).toArray=bv (m++l.drop m.length):=by
  rw [ba_size]
  simp [bv,Lib.byteCells]
 rw [e,ba_size] at hrun
 refine wpList_plain hgd fun _ hK=>?_
 unfold Oper.wp
 simp [execOp,hop,resolve,invoke,builtin,hd,hx,hrun,Result.andThen]
 exact hK _ _ h
def padL (l:List UInt8):List UInt8:=l++List.replicate (64 - l.length) 0
theorem padL_len (l:List UInt8) (h:l.length≤64):(padL l).length=64:=by simp [padL];omega
def Z64:List UInt8:=List.replicate 64 0
set_option maxHeartbeats 1000000 in
theorem fill_any (l:List UInt8) (hl:l.length≤64) (w:World) :
 Calls Tryz.prog 224 #[.string ⟨l.toArray⟩] w fun e w'=>e=.returned (.string ⟨(padL l).toArray⟩)∧Below w.heap.size w w':=by
 have hpad:l++Z64.drop l.length=padL l:=by unfold Z64;rw [List.drop_replicate];rfl
 have hb:(Tryz.prog.info? 5).map (·.size)=some 1:=by kernel_rfl
 go_enter Tryz.func224,Tryz.ntmps224
 go_upto_region 3 with (refine wpList_copy_str rfl _ _ 98 9 rfl 5 Tryz.underlying98 hb w.heap.size 64 64 rfl Z64 l rfl 325 (heap_alloc_new w _) hl ?h2 ?_)
 case h2=>exact hl
 change Code.wp _ _ _ _ ((w.alloc (.cells (bv Z64) 325)).setRow w.heap.size (bv (l++Z64.drop l.length)))
 rw [hpad]
 obtain ⟨w2,hw2⟩:∃ w2,(w.alloc (.cells (bv Z64) 325)).setRow w.heap.size (bv (padL l))=w2:=⟨_,rfl⟩
 have hrow:BRow w2 w.heap.size 325 (padL l):=by rw [← hw2];exact setRow_heap _ _ _ _ _ _ (heap_alloc_new w _)
 have hbw:Below w.heap.size w w2:=by rw [← hw2];exact below_setRow ((Below.refl _ _).alloc (Nat.le_refl _) _) (Nat.le_refl _) _
 have hconv:=hrow.string (P:=Tryz.prog) 98 5 9 (by kernel_rfl) (by kernel_rfl) (by kernel_rfl) 64 64 (padL_len l hl)
 rw [hw2]
 clear hw2
 go_wp2
 go_ret
 exact ⟨rfl,hbw⟩
attribute [local go_sem] wv_get wv_getE wv_set wv_size
def fl (H:List Int) (k:Nat):List UInt8:=(List.range 32).map fun i=>if i < k then UInt8.ofNat ((at_ H (i / 4) / 2 ^ (8*(i % 4))) % 256).toNat else 0
theorem fl_len (H:List Int) (k:Nat):(fl H k).length=32:=by simp [fl]
theorem fl_set (H:List Int) (k:Nat) (x:UInt8) (hx:x=UInt8.ofNat ((at_ H (k / 4) / 2 ^ (8*(k % 4))) % 256).toNat):(fl H k).set k x=fl H (k+1):=by
 subst hx
 apply List.ext_getElem
 ·simp [fl]
 ·intro i h1 h2
  simp only [List.getElem_set,fl,List.getElem_map,List.getElem_range]
  by_cases h:k=i
  ·subst h;simp
  ·rw [if_neg h]
   by_cases h3:i < k
   ·rw [if_pos h3,if_pos (by omega)]
   ·rw [if_neg h3,if_neg (by omega)]
theorem byte_of (x:Int):(Value.int .u8 (x % 256))=.int .u8 ((UInt8.ofNat (x % 256).toNat).toNat:Int):=by
 congr 1
 simp;omega
set_option maxHeartbeats 1000000 in
theorem flat_any (H:List Int) (hH:H.length=8) (w:World) :
 Calls Tryz.prog 225 #[.agg (wv H)] w fun e w'=>e=.returned (.string ⟨(fl H 32).toArray⟩)∧Below w.heap.size w w':=by
 have hHs:(wv H).size=8:=by rw [wv_size,hH]
 go_enter Tryz.func225,Tryz.ntmps225
 go_wp2
 go_loopw [5] (fun i wr=>∃ k:Nat,k≤32∧i=.int .i64 k∧Hid (Row wr w.heap.size 194 H)∧Hid (BRow wr (w.heap.size+1) 326 (fl H k))∧Below w.heap.size w wr) (fun i _=>32 - (RowKit.intOf i).toNat)
 case atStart =>
  refine ⟨0,by omega,rfl,?_,?_,((Below.refl _ _).alloc (Nat.le_refl _) _).alloc (by simp) _⟩
  ·exact heap_alloc2_old w _ _
  ·exact heap_alloc2_new w _ _
 case round =>
  obtain ⟨k,hk,rfl,HR,HB,hbw⟩:=hrel
  by_cases hlt:k < 32
  ·have i0:(k:Int) < 32:=by omega
   have p0:(0:Int)≤k:=by omega
   have lf:=fl_len H k
   have q8:k / 4 < 8:=by omega
   have c0:wr.cell? ⟨w.heap.size,k / 4,none⟩=some (.int .u32 (at_ H (k / 4))):=by rw [HR.out.cell _ (by omega),at_eq]
   obtain ⟨y,hy⟩:∃ y,at_ H (k / 4)=y:=⟨_,rfl⟩
   rw [hy] at c0
   have cB:=HB.out.cell k (by omega)
   have fB:=HB.out.frozen k
   go_wp2
   go_roundw
   case rel =>
    refine ⟨k+1,by omega,by go_num,HR.out.other _ _ _ (by omega),?_,hbw.setCell (by simp) _⟩
    rw [byte_of,← fl_set H k _ (by rw [hy])]
    exact HB.out.set k _
   case measure=>simp [RowKit.intOf];omega
  ·obtain rfl:k=32:=by omega
   have hconv:=HB.out.string (P:=Tryz.prog) 98 5 9 (by kernel_rfl) (by kernel_rfl) (by kernel_rfl) 32 32 (fl_len H 32)
   go_wp2
   go_ret
   exact ⟨rfl,hbw⟩
end Go.Proofs.YtkkenfhlgpjmjaaGreatDoor
namespace Go.Proofs.YtkkenfhlgpjmjaaGreatDoor
set_option maxRecDepth 100000
open Go.RowKit
set_option linter.unusedVariables false
def fk (H:List Int) (S:List UInt8):Nat→List Int
 | 0=>H
 | k+1=>blockL (fk H S k) ((S.drop (64*k)).take 64) (64*(k+1)) false
theorem fk_len (H:List Int) (S:List UInt8) (h:H.length=8) (k:Nat):(fk H S k).length=8:=by
 cases k with
 | zero=>exact h
 | succ k=>exact blockL_len _ _ _ _
def nb (S:List UInt8):Nat:=(S.length - 1) / 64
def foldL (H:List Int) (S:List UInt8):List Int:=blockL (fk H S (nb S)) (padL (S.drop (64*nb S))) S.length true
theorem foldL_len (H:List Int) (S:List UInt8):(foldL H S).length=8:=blockL_len _ _ _ _
theorem nb_of (S:List UInt8) (k:Nat) (h1:k=0∨64*k < S.length) (h2:S.length≤64*k+64):nb S=k:=by
 unfold nb;omega
theorem conv_row (W:World) (C:Array Value) (t:TypeId) (off n cap:Nat) (xs:List Int) (hn:xs.length=n) (hc:∀ i,i < n→C[off+i]?=some (.int .u8 (xs.getD i 0))) :
 (convert 98 9 (.slice (some ⟨W.heap.size,off,none⟩) n cap)).run Tryz.prog (W.alloc (.cells C t))=.ok (.string (strOfNums xs)) (W.alloc (.cells C t)) :=
 run_convert_bytes_arg (P:=Tryz.prog) (W.alloc (.cells C t)) 98 5 (by kernel_rfl) (by kernel_rfl) W.heap.size off n cap xs hn (fun i hi=>by rw [World.cell?_alloc_new];exact hc i hi) 9 (by kernel_rfl)
theorem conv1 (W:World) (x:Int) (t:TypeId) :
 (convert 98 9 (.slice (some ⟨W.heap.size,0,none⟩) 1 1)).run Tryz.prog (W.alloc (.cells #[.int .u8 x] t))=.ok (.string ⟨[UInt8.ofNat x.toNat].toArray⟩) (W.alloc (.cells #[.int .u8 x] t)) :=
 conv_row W _ t 0 1 1 [x] rfl (fun i hi=>by obtain rfl:i=0:=by omega
                                            rfl)
theorem conv3 (W:World) (x y z:Int) (t:TypeId) :
 (convert 98 9 (.slice (some ⟨W.heap.size,0,none⟩) 3 3)).run Tryz.prog (W.alloc (.cells #[.int .u8 x,.int .u8 y,.int .u8 z] t))=.ok (.string ⟨[UInt8.ofNat x.toNat,UInt8.ofNat y.toNat,UInt8.ofNat z.toNat].toArray⟩) (W.alloc (.cells #[.int .u8 x,.int .u8 y,.int .u8 z] t)) :=
 conv_row W _ t 0 3 3 [x,y,z] rfl (fun i hi=>by
  have:i=0∨i=1∨i=2:=by omega
  rcases this with rfl | rfl | rfl<;>rfl)
theorem conv3_1 (W:World) (x y z:Int) (t:TypeId) :
 (convert 98 9 (.slice (some ⟨W.heap.size,2,none⟩) 1 1)).run Tryz.prog (W.alloc (.cells #[.int .u8 x,.int .u8 y,.int .u8 z] t))=.ok (.string ⟨[UInt8.ofNat z.toNat].toArray⟩) (W.alloc (.cells #[.int .u8 x,.int .u8 y,.int .u8 z] t)) :=
 conv_row W _ t 2 1 1 [z] rfl (fun i hi=>by obtain rfl:i=0:=by omega
                                            rfl)
theorem nums_short (n:Nat) (h:n≤250):(⟨[UInt8.ofNat n].toArray⟩:ByteArray)=⟨(Lm.lenL n).toArray⟩:=by
 simp [Lm.lenL,h]
theorem nums_long (n:Nat) (h:¬ n≤250):(⟨[251,UInt8.ofNat ((n:Int) / 256).toNat,UInt8.ofNat ((n:Int) % 256).toNat].toArray⟩:ByteArray)=⟨(Lm.lenL n).toArray⟩:=by
 have e1:((n:Int) / 256).toNat=n / 256:=by omega
 have e2:((n:Int) % 256).toNat=n % 256:=by omega
 simp only [Lm.lenL,h,if_false,e1,e2]
attribute [local go_sem] ba_size ba_append
theorem conv2 (W:World) (x y:Int) (t:TypeId) :
 (convert 98 9 (.slice (some ⟨W.heap.size,0,none⟩) 2 2)).run Tryz.prog (W.alloc (.cells #[.int .u8 x,.int .u8 y] t))=.ok (.string ⟨[UInt8.ofNat x.toNat,UInt8.ofNat y.toNat].toArray⟩) (W.alloc (.cells #[.int .u8 x,.int .u8 y] t)) :=
 conv_row W _ t 0 2 2 [x,y] rfl (fun i hi=>by
  have:i=0∨i=1:=by omega
  rcases this with rfl | rfl<;>rfl)
abbrev evA (x:Ev):Value:=.agg #[.int .i64 x.1,.int .i64 x.2.1,.string ⟨x.2.2.1.toArray⟩,.string ⟨x.2.2.2.toArray⟩]
theorem bytesE_no (x:Ev) (h:¬ mayE x):bytesE x=([],1):=by unfold bytesE;rw [if_neg h]
theorem bytesE_ok (x:Ev) (h:mayE x):bytesE x=(bytE x,0):=by unfold bytesE;rw [if_pos h]
end Go.Proofs.YtkkenfhlgpjmjaaGreatDoor
namespace Go.Proofs.YtkkenfhlgpjmjaaGreatDoor
set_option maxRecDepth 100000
open Go.RowKit
attribute [local go_sem] ba_size ba_get ba_extract ba_append wrap_byte wrap_u64_byte take_drop_end
theorem slice75 (w:World) (b m:Nat) (hm:m < 3) :
 (Instr.sliceAt 313 (.pointer (some ⟨b,0,none⟩)) (some (.int .i64 (m:Int))) none none).run Tryz.prog w=.ok (.slice (some ⟨b,m,none⟩) (3 - m) (3 - m)) w:=by
 have hl:Tryz.prog.arrayLen 313=3:=by kernel_rfl
 have hz:∀ w,(Go.sizeOf (Tryz.prog.elem 313)).run Tryz.prog w=.ok 1 w:=fun w=>by kernel_rfl
 rw [run_sliceAt_array_l w 313 ⟨b,0,none⟩ (by kernel_rfl) .i64 m (by omega) (by rw [hl];omega),hl,hz]
 simp only [Result.andThen,slicedAt,Int.toNat_natCast]
 rw [if_neg (by omega)]
 unfold Addr.add;split<;>simp_all
set_option maxHeartbeats 400000 in
theorem length_any (n:Nat) (hn:n≤65535) (w:World) :
 Calls Tryz.prog 221 #[.int .i64 n] w fun e w'=>e=.returned (.string ⟨(Lm.lenL n).toArray⟩)∧Below w.heap.size w w':=by
 have s0:=fun W b=>slice75 W b 0 (by omega)
 have s2:=fun W b=>slice75 W b 2 (by omega)
 have c1:=conv3_1
 have c3:=conv3
 simp only [Int.natCast_zero,Nat.sub_zero] at s0
 simp only [Nat.reduceSub] at s2
 by_cases h:n≤250
 ·go_enter Tryz.func221,Tryz.ntmps221
  go_wp2
  go_ret
  exact ⟨ret_str (nums_short n h),(Below.refl _ _).alloc (Nat.le_refl _) _⟩
 ·go_enter Tryz.func221,Tryz.ntmps221
  go_wp2
  go_ret
  exact ⟨ret_str (nums_long n h),(Below.refl _ _).alloc (Nat.le_refl _) _⟩
set_option maxHeartbeats 400000 in
theorem text_any (l:List UInt8) (hl:l.length≤9223372036854775807) (w:World) :
 Calls Tryz.prog 148 #[.string ⟨l.toArray⟩] w fun e w'=>e=.returned (.tuple #[.string ⟨(Lm.textL l).1.toArray⟩,.int .i64 ((Lm.textL l).2:Int)])∧Below w.heap.size w w':=by
 unfold Lm.textL
 by_cases h:65535 < l.length
 ·rw [if_pos h]
  go_enter Tryz.func148,Tryz.ntmps148
  go_wp2
  go_ret2
  exact ⟨rfl,Below.refl _ _⟩
 ·rw [if_neg h]
  go_enter Tryz.func148,Tryz.ntmps148
  go_wp2_with fail
  refine (length_any l.length (by omega) _).mono ?_
  rintro e w1 ⟨rfl,hb1⟩
  have hll:=Lm.lenL_le l.length
  go_wp2_with fail
  go_ret2
  exact ⟨rfl,hb1⟩
theorem text_ok (l:List UInt8) (h:¬ 65535 < l.length) (w:World) :
 Calls Tryz.prog 148 #[.string ⟨l.toArray⟩] w fun e w'=>e=.returned (.tuple #[.string ⟨(Lm.lenL l.length++l).toArray⟩,.int .i64 0])∧Below w.heap.size w w':=by
 have:=text_any l (by omega) w
 unfold Lm.textL at this
 rw [if_neg h] at this
 exact this
theorem text_big (l:List UInt8) (hl:l.length≤9223372036854775807) (h:65535 < l.length) (w:World) :
 Calls Tryz.prog 148 #[.string ⟨l.toArray⟩] w fun e w'=>e=.returned (.tuple #[.string ⟨#[]⟩,.int .i64 4])∧Below w.heap.size w w':=by
 have:=text_any l hl w
 unfold Lm.textL at this
 rw [if_pos h] at this
 exact this
end Go.Proofs.YtkkenfhlgpjmjaaGreatDoor
namespace Go.Proofs.YtkkenfhlgpjmjaaGreatDoor
set_option maxRecDepth 100000
open Go.RowKit
set_option linter.unusedVariables false
attribute [local go_sem] ba_size ba_append
theorem grownT {a b c:World} {x:Option Nat} (h:a.grownBy b x) (k:b.grownBy c x):a.grownBy c x :=
 ⟨k.os.trans h.os,k.tape.trans h.tape,k.output.trans h.output,Nat.le_trans h.size k.size,fun i hi hne=>(k.block i (Nat.lt_of_lt_of_le hi h.size) hne).trans (h.block i hi hne)⟩
theorem grownB {a b:World} (x:Option Nat) (h:Below a.heap.size a b):a.grownBy b x:=⟨h.os,h.tape,h.output,h.size,fun i hi _=>h.block i hi⟩
theorem play_any (t s:List UInt8) (ht:¬ 65535 < t.length) (hs:s.length≤9223372036854000000) (W:World) (g:Nat) (hx:Boxed W g 9 (.string ⟨s.toArray⟩)) :
 Calls Tryz.prog 147 #[.string ⟨t.toArray⟩,.pointer (some ⟨g,0,none⟩)] W fun e W'=>e=.returned (.tuple #[])∧W.grownBy W' (some g)∧Boxed W' g 9 (.string ⟨(s++(Lm.lenL t.length++t)).toArray⟩):=by
 have T1:=text_ok t ht W
 have l1:=Lm.lenL_le t.length
 have z1:(Lm.lenL t.length++t).length≤65538:=by rw [List.length_append];omega
 obtain ⟨x,hX⟩:∃ x,Lm.lenL t.length++t=x:=⟨_,rfl⟩
 rw [hX] at T1 z1 ⊢
 clear hX l1
 have z3:s.length+x.length≤9223372036854775807:=by omega
 go_enter Tryz.func147,Tryz.ntmps147
 go_wp2_with fail
 refine T1.mono ?_
 rintro e w1 ⟨rfl,b1⟩
 have hx1:Boxed w1 g 9 (.string ⟨s.toArray⟩):=boxed_below hx b1
 have d1:=hx1.cell
 have d2:=hx1.frozen
 go_wp2_with fail
 go_end0
 exact ⟨rfl,grownT (grownB (some g) b1) (grownBy_setCell' _ _ _),hx1.set _⟩
theorem SBox.grown {w w':World} {g x:Nat} {t:TypeId} {cs:Array Value} (h:SBox w g t cs) (k:w.grownBy w' (some x)) (hne:g≠x):SBox w' g t cs:=(k.block g h.lt (by simpa using hne)).trans h
set_option maxHeartbeats 1000000 in
theorem pbytes6_any (k t:Int) (a b:List UInt8) (w:World) :
 Calls Tryz.prog 80 #[evA (k,t,a,b)] w fun e w'=>e=.returned (.tuple #[.string ⟨(bytesE (k,t,a,b)).1.toArray⟩,.int .i64 ((bytesE (k,t,a,b)).2:Int)])∧Below w.heap.size w w':=by
 have al:∀ o,Below w.heap.size w (w.alloc o):=fun o=>(Below.refl _ w).alloc (Nat.le_refl _) o
 have M:Hid (∀ W,Calls Tryz.prog 123 #[.agg #[.int .i64 k,.int .i64 t,.string ⟨a.toArray⟩,.string ⟨b.toArray⟩]] W fun e w'=>e=.returned (.bool (decide (mayE (k,t,a,b))))∧Below W.heap.size W w'):=fun W=>pmay_any k t a b W
 have X0:=SBox.new w 64 #[.int .i64 k,.int .i64 t,.string ⟨a.toArray⟩,.string ⟨b.toArray⟩]
 have c2:=conv2
 by_cases hm:mayE (k,t,a,b)
 ·rw [decide_eq_true hm] at M
  rw [bytesE_ok _ hm]
  obtain ⟨⟨k1,k2,t1,t2⟩,hr⟩:=hm
  simp only at k1 k2 t1 t2 hr
  have u1:IntKind.u8.wrap k=k:=by rw [IntKind.wrap_u8];omega
  have u2:IntKind.u8.wrap t=t:=by rw [IntKind.wrap_u8];omega
  by_cases hk:keyedE k
  ·rw [if_pos hk] at hr
   have HE:Hid (bytE (k,t,a,b)=[UInt8.ofNat k.toNat,UInt8.ofNat t.toNat]++(Lm.lenL a.length++a)++(Lm.lenL b.length++b)):=by
    show _=_
    unfold bytE txtE
    simp only
    rw [if_pos hk]
    simp
   have T:=fun W=>ptexts_key k hk W
   have l1:=Lm.lenL_le a.length
   have PL1:Hid (∀ W g,Boxed W g 9 (.string ⟨[UInt8.ofNat k.toNat,UInt8.ofNat t.toNat].toArray⟩)→_):=fun W g h=>play_any a [UInt8.ofNat k.toNat,UInt8.ofNat t.toNat] (by omega) (by simp) W g h
   have PL2:Hid (∀ W g,Boxed W g 9 (.string ⟨([UInt8.ofNat k.toNat,UInt8.ofNat t.toNat]++(Lm.lenL a.length++a)).toArray⟩)→_):=fun W g h=>play_any b ([UInt8.ofNat k.toNat,UInt8.ofNat t.toNat]++(Lm.lenL a.length++a)) (by omega) (by simp only [List.length_append,List.length_cons,List.length_nil];omega) W g h
   obtain ⟨m,hm⟩:∃ m:Int,(if k=2 then 0 else 1:Int)=m:=⟨_,rfl⟩
   rw [hm] at T
   obtain ⟨s1,hs1⟩:∃ s,[UInt8.ofNat k.toNat,UInt8.ofNat t.toNat]++(Lm.lenL a.length++a)=s:=⟨_,rfl⟩
   rw [hs1] at PL1 PL2 HE
   obtain ⟨s2,hs2⟩:∃ s,s1++(Lm.lenL b.length++b)=s:=⟨_,rfl⟩
   rw [hs2] at PL2 HE
   clear l1 hr hk hm hs1 hs2
   rw [HE.out]
   go_enter Tryz.func80,Tryz.ntmps80
   go_wp2_with fail
   refine (M.out _).mono ?_
   rintro e w1 ⟨rfl,b1⟩
   have B1:=bel_trans (al _) b1
   have X1:=X0.below b1
   have x0:=X1.cell 0 _ rfl
   have x1:=X1.cell 1 _ rfl
   have y0:=fun o=>(X1.alloc o).cell 0 _ rfl
   have y1:=fun o=>(X1.alloc o).cell 1 _ rfl
   have y00:=fun o o'=>((X1.alloc o).alloc o').cell 0 _ rfl
   go_wp2_with fail
   refine (T _).mono ?_
   rintro e w2 ⟨rfl,b2⟩
   have X2:=((X1.alloc _).alloc _).below b2
   have S2:=boxed_below (Boxed.new _ _ _) b2
   have B1':=B1.alloc B1.size (.cells #[.int .u8 k,.int .u8 t] 5)
   have B2:=bel_trans (B1'.alloc B1'.size _) b2
   rw [World.size_alloc] at S2
   have z2:=X2.cell 2 _ rfl
   have h12:=B1.size
   go_wp2_with fail
   refine (PL1.out _ _ S2).mono ?_
   rintro e w3 ⟨rfl,g3,S3⟩
   have hlt:w.heap.size < w1.heap.size:=X1.lt
   have X3:=X2.grown g3 (by omega)
   have z3:=X3.cell 3 _ rfl
   have B3:Below w.heap.size w w3:=B2.grown g3 B2.size (fun k h=>by cases h;omega)
   go_wp2_with fail
   refine (PL2.out _ _ S3).mono ?_
   rintro e w4 ⟨rfl,g4,S4⟩
   have B4:Below w.heap.size w w4:=B3.grown g4 B3.size (fun k h=>by cases h;omega)
   have s4:=S4.cell
   go_wp2_with fail
   go_ret2
   exact ⟨rfl,B4⟩
  ·rw [if_neg hk] at hr
   obtain ⟨rfl,rfl⟩:=hr
   have HE:Hid (bytE (k,t,[],[])=[UInt8.ofNat k.toNat,UInt8.ofNat t.toNat]):=by
    show _=_
    unfold bytE
    simp only
    rw [if_neg hk]
   rw [HE.out]
   have T:=fun W=>ptextsN k hk W
   clear hk
   go_enter Tryz.func80,Tryz.ntmps80
   go_wp2_with fail
   refine (M.out _).mono ?_
   rintro e w1 ⟨rfl,b1⟩
   have B1:=bel_trans (al _) b1
   have X1:=X0.below b1
   have x0:=X1.cell 0 _ rfl
   have x1:=X1.cell 1 _ rfl
   have y0:=fun o=>(X1.alloc o).cell 0 _ rfl
   have y1:=fun o=>(X1.alloc o).cell 1 _ rfl
   have y00:=fun o o'=>((X1.alloc o).alloc o').cell 0 _ rfl
   go_wp2_with fail
   refine (T _).mono ?_
   rintro e w2 ⟨rfl,b2⟩
   have S2:=boxed_below (Boxed.new _ _ _) b2
   have B1':=B1.alloc B1.size (.cells #[.int .u8 k,.int .u8 t] 5)
   have B2:=bel_trans (B1'.alloc B1'.size _) b2
   rw [World.size_alloc] at S2
   have s2:=S2.cell
   go_wp2_with fail
   go_ret2
   exact ⟨rfl,B2⟩
 ·rw [decide_eq_false hm] at M
  rw [bytesE_no _ hm]
  clear hm
  go_enter Tryz.func80,Tryz.ntmps80
  go_wp2_with fail
  refine (M.out _).mono ?_
  rintro e w1 ⟨rfl,b1⟩
  have B1:=bel_trans (al _) b1
  go_wp2_with fail
  go_ret2
  exact ⟨rfl,B1⟩
end Go.Proofs.YtkkenfhlgpjmjaaGreatDoor
