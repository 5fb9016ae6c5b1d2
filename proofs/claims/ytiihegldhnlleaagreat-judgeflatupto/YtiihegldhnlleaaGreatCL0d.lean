/-
  What history.living hands to a loop, whatever is done with it. What loops over the living events keep: a value's box, a row's box and the row, a map of numbers,
-/
import Derived.Test.YtiihegldhnlleaaGreatCL0c
import Derived.Shelf.Sort.Plain
import Derived.Shelf.Slices.In.SortNone
import Derived.Lib.SlicesCompact
namespace Go.Proofs.YtiihegldhnlleaaGreat
set_option maxRecDepth 100000
open Go.RowKit Go.Shelf Go.Maps
set_option linter.unusedVariables false
attribute [local go_sem] Oper.semAt_some
abbrev livingF (b:Nat):Value:=.func (.func 96) #[] #[.pointer (some ⟨b,0,none⟩)]
theorem pliving_any (a:Option Addr) (n cap:Nat) (w:World) :
 Calls Tryz.prog 66 #[.slice a n cap] w fun e w'=>e=.returned (livingF w.heap.size)∧w'=w.alloc (.cells #[.slice a n cap] 22):=by
 go_enter Tryz.func66,Tryz.ntmps66
 go_wp2_with fail
 go_ret
 exact ⟨rfl,rfl⟩
theorem zero8u (w:World):(zeroValue 131).run Tryz.prog w=.ok (.agg #[]) w:=by kernel_rfl
structure KpL (n b A:Nat) (W W':World):Prop where
 below:Below n W W'
 box:W'.heap[b]?=W.heap[b]?
 own:∀ j,A≤j→j < A+1+1+1+1→W'.heap[j]?=W.heap[j]?
theorem KpL.trans {n b A:Nat} {X Y Z:World} (h:KpL n b A X Y) (k:KpL n b A Y Z):KpL n b A X Z :=
 ⟨h.below.trans k.below,k.box.trans h.box,fun j h1 h2=>(k.own j h1 h2).trans (h.own j h1 h2)⟩
structure VSt (V:World) (l:Nat) (sl:Value) (m:Nat) (p:Int→Bool) (W:World):Prop where
 size:V.heap.size+1+1+1+1≤W.heap.size
 by_:Boxed W (V.heap.size) 95 (.func (.yield l) #[] #[])
 bm:ISet W (V.heap.size+1) m p
 bb:Boxed W (V.heap.size+1+1) 130 (.map (some (V.heap.size+1)))
 be:Boxed W (V.heap.size+1+1+1) 22 sl
theorem VSt.bel {V:World} {l:Nat} {sl:Value} {m:Nat} {p:Int→Bool} {W W':World} (h:VSt V l sl m p W) (hb:Below (V.heap.size+1+1+1+1) W W'):VSt V l sl m p W' :=
 ⟨Nat.le_trans h.size hb.size,boxed_bel h.by_ hb (by omega),h.bm.bel hb (by omega),boxed_bel h.bb hb (by omega),boxed_bel h.be hb (by omega)⟩
theorem VSt.turn {V:World} {l:Nat} {sl:Value} {m m':Nat} {p p':Int→Bool} {W W':World} (h:VSt V l sl m p W) (hg:W.grownBy W' (some (V.heap.size+1))) (hf:ISet W' (V.heap.size+1) m' p'):VSt V l sl m' p' W' :=
 ⟨Nat.le_trans h.size hg.size,h.by_.kept hg (fun e=>by have:=Option.some.inj e;omega),hf,h.bb.kept hg (fun e=>by have:=Option.some.inj e;omega),h.be.kept hg (fun e=>by have:=Option.some.inj e;omega)⟩
theorem VSt.own {V:World} {l:Nat} {sl:Value} {m:Nat} {p:Int→Bool} {W W':World} (h:VSt V l sl m p W) (hs:W.heap.size≤W'.heap.size) (ho:∀ j,V.heap.size≤j→j < V.heap.size+1+1+1+1→W'.heap[j]?=W.heap[j]?):VSt V l sl m p W' :=
 ⟨Nat.le_trans h.size hs,(ho _ (by omega) (by omega)).trans h.by_,h.bm.same (ho _ (by omega) (by omega)),(ho _ (by omega) (by omega)).trans h.bb,(ho _ (by omega) (by omega)).trans h.be⟩
theorem own_step {β:Type} {B:Nat} {J:β→World→Prop} (hJ:OwnFrom B J) {s:β} {W W':World} (h:J s W) (hg:Below W.heap.size W W'):J s W' :=
 hJ s W W' none h (grown_below8 none hg) (fun r e=>by cases e)
set_option maxHeartbeats 4000000 in
theorem living8_in (h:List Ev) (w0:World) (a:Option Addr) (cap:Nat) (hT:IsEvs w0 (.slice a h.length cap) h) (hG:∀ x∈h,goodE x) (hn:h.length≤300) (bh k l:Nat) (V:World) (hW:Below w0.heap.size w0 V) (hbox:Boxed V bh 22 (.slice a h.length cap)) (J Jx:List (Fin h.length)→World→Prop) (hJ:OwnFrom V.heap.size J) (hJx:OwnFrom V.heap.size Jx)
 (hY:∀ pre x W,J pre W→pre.length < h.length→V.heap.size+1+1+1+1≤W.heap.size→YieldAt Fence.wide (k - 1) Tryz.prog l (ixV h x) W fun e W'=>(e=.returned (.bool true)∧J (pre++[x]) W'∧KpL w0.heap.size bh V.heap.size W W'∧KeepsFrom V.heap.size W W')∨(e=.returned (.bool false)∧Jx (pre++[x]) W'∧KeepsFrom V.heap.size W W'))
 (h0:J [] V) :
 CallsIn Fence.wide k Tryz.prog 96 #[.func (.yield l) #[] #[],.pointer (some ⟨bh,0,none⟩)] V fun e W'=>(∃ v,e=.returned v) ∧
  ((∃ ys,ys=livP h∧J ys W')∨(∃ pre,pre <+: livP h∧Jx pre W')):=by
 have hdd:∀ k:Nat,(Fence.wide.depth.isSome=true→1≤k):=fun k h=>by cases h
 have hmm:=@run_makeMap Tryz.prog
 have c0:=(((hbox.alloc (.cells #[.func (.yield l) #[] #[]] 95)).alloc (.map #[] 0)).alloc (.cells #[.map (some (V.heap.size+1))] 130)).cell
 have hbl:=hbox.lt
 refine callsIn_depth 5 ?_
 refine callsIn_of_wp_marks Tryz.func96 rfl trivial ?_ rfl
 simp only [Tryz.ntmps96,List.size_toArray,List.length_cons,List.length_nil,Nat.reduceAdd,Nat.reduceSub,Array.replicate_succ,Array.replicate_zero,List.push_toArray,List.append_toArray,List.nil_append,List.cons_append]
 gi_wp2_with ((try refine ⟨trivial,?_⟩);gi_at_call 44;refine (callsIn_wide.2 (pevents8_any _ _ _ _)).mono ?_;rintro e w2 ⟨rfl,rfl⟩)
 have hS0:VSt V l (.slice a h.length cap) 0 (fun _=>false) ((((V.alloc (.cells #[.func (.yield l) #[] #[]] 95)).alloc (.map #[] 0)).alloc (.cells #[.map (some (V.heap.size+1))] 130)).alloc (.cells #[.slice a h.length cap] 22)):=by
  have b0:=(((Boxed.new V 95 (.func (.yield l) #[] #[])).alloc (.map #[] 0)).alloc (.cells #[.map (some (V.heap.size+1))] 130)).alloc (.cells #[.slice a h.length cap] 22)
  have b1:=((ISet.made (V.alloc (.cells #[.func (.yield l) #[] #[]] 95))).kept (World.grownBy_alloc _ (.cells #[.map (some (V.heap.size+1))] 130) none) (by simp)).kept (World.grownBy_alloc _ (.cells #[.slice a h.length cap] 22) none) (by simp)
  have b2:=(Boxed.new ((V.alloc (.cells #[.func (.yield l) #[] #[]] 95)).alloc (.map #[] 0)) 130 (.map (some (V.heap.size+1)))).alloc (.cells #[.slice a h.length cap] 22)
  have b3:=Boxed.new (((V.alloc (.cells #[.func (.yield l) #[] #[]] 95)).alloc (.map #[] 0)).alloc (.cells #[.map (some (V.heap.size+1))] 130)) 22 (.slice a h.length cap)
  simp only [World.size_alloc] at b0 b1 b2 b3
  exact ⟨by simp,b0,b1,b2,b3⟩
 have B0:Below V.heap.size V ((((V.alloc (.cells #[.func (.yield l) #[] #[]] 95)).alloc (.map #[] 0)).alloc (.cells #[.map (some (V.heap.size+1))] 130)).alloc (.cells #[.slice a h.length cap] 22)):=((((Below.refl _ V).alloc (Nat.le_refl _) _).alloc (by simp) _).alloc (by simp;omega) _).alloc (by simp;omega) _
 obtain ⟨W0,hW0⟩:∃ W0,((((V.alloc (.cells #[.func (.yield l) #[] #[]] 95)).alloc (.map #[] 0)).alloc (.cells #[.map (some (V.heap.size+1))] 130)).alloc (.cells #[.slice a h.length cap] 22))=W0:=⟨_,rfl⟩
 have sW0:W0.heap.size=V.heap.size+1+1+1+1:=by rw [← hW0];simp
 change Code.wpIn _ _ _ _ _ _ ((((V.alloc (.cells #[.func (.yield l) #[] #[]] 95)).alloc (.map #[] 0)).alloc (.cells #[.map (some (V.heap.size+1))] 130)).alloc (.cells #[.slice a h.length cap] 22))
 rw [hW0] at hS0 B0 ⊢
 clear hW0 c0
 have J0:J [] W0:=own_step hJ h0 B0
 refine wpIn_rangeFunc_ownH rfl (by omega) (gf:=61) (lb:=#[.pointer (some ⟨V.heap.size+1+1+1,0,none⟩)]) rfl trivial (enters_of Tryz.func61 (by kernel_rfl) rfl)
  (events8_stops h w0 a cap hT (V.heap.size+1+1+1) (5 - 1) W0 (hW.trans (B0.mono hW.size)) hS0.be) (fun h k=>kpE_t h k) (kpE_b (by have:=hW.size;omega) (by omega)) (Below.refl _ _) (fun _=>rfl)
  (fun pre W=>J (livF h pre) W∧VSt V l (.slice a h.length cap) pre.length (endedIn h pre) W∧Below V.heap.size V V) (fun c pre W=>c=.ret∧Jx (livF h pre) W)
  (fun s X Y row ⟨hj,hs,hb⟩ hg hr=>⟨hJ _ X Y row hj hg (fun r e=>⟨by have:=(hr r e).1;omega,(hr r e).2⟩),hs.bel ((Below.refl _ X).grown hg hs.size (fun r e=>by have:=(hr r e).1;omega)),hb⟩)
  (fun c s X Y row ⟨hc,hj⟩ hg hr=>⟨hc,hJx _ X Y row hj hg (fun r e=>⟨by have:=(hr r e).1;omega,(hr r e).2⟩)⟩)
  ⟨J0,hS0,Below.refl _ _⟩
  (fun x a' W=>∃ Bx,V.heap.size+1+1+1 < Bx∧SBox W Bx 49 #[.int .i64 h[x.val].1,.int .i64 h[x.val].2.1,.string ⟨h[x.val].2.2.1.toArray⟩,.string ⟨h[x.val].2.2.2.toArray⟩]∧a'={ tmps:=#[.func (.yield l) #[] #[],.pointer (some ⟨bh,0,none⟩),.pointer (some ⟨V.heap.size,0,none⟩),.pointer (some ⟨V.heap.size+1+1,0,none⟩),.int .i64 (x.val:Int),.pointer (some ⟨Bx,0,none⟩),undef,undef,.map (some (V.heap.size+1)),.slice a h.length cap,eventsF8 (V.heap.size+1+1+1),.int .i64 (x.val:Int),evW h[x.val],undef,undef,undef,undef,undef,undef,undef,undef,undef,undef,undef,undef,undef,undef,undef,undef,undef,undef,undef],defers:=[] })
  (fun x a' _ A B row hs hg hr=>by
   obtain ⟨Bx,h1,h2,h4⟩:=hs
   exact ⟨Bx,h1,block_kept h2 hg (fun r e=>(hr r e).2),h4⟩)
  ?assign ?body ?done ?stop
 case assign =>
  rintro l' pre x W K ⟨hj,hS,_⟩ hK
  have hsz:=hS.size
  gi_wp2
  have b1:=(Below.refl W.heap.size W).alloc (Nat.le_refl _) (.cells #[.int .i64 h[x.val].1,.int .i64 h[x.val].2.1,.string ⟨h[x.val].2.2.1.toArray⟩,.string ⟨h[x.val].2.2.2.toArray⟩] 49)
  refine hK _ _ ((KeepsOthers.alloc _ _).from _) ⟨(Below.refl _ W).alloc (by have:=hW.size;omega) _,Below.heap_alloc W _ _ (by omega)⟩ ⟨own_step hJ hj b1,hS.bel (b1.mono hsz),Below.refl _ _⟩ ⟨W.heap.size,by omega,SBox.new W _ _,rfl⟩
 case body =>
  rintro l' pre x a' W hl hrec ⟨hj,hS,_⟩ ⟨Bx,hBx,hblk,rfl⟩ hlt
  have HW0:Hid (W0.heap.size=V.heap.size+1+1+1+1):=sW0
  have hVs:=hW.size
  clear sW0 hS0 hl hrec J0 B0
  have hsz:=hS.size
  have hxn:=x.isLt
  have hgx:=hG h[x.val] (List.getElem_mem _)
  obtain ⟨⟨y0,y1,y2,y3⟩,hy⟩:∃ y,h[x.val]=y:=⟨_,rfl⟩
  have HY:Hid (h[x.val]=(y0,y1,y2,y3)):=hy
  have e21:h[x.val].2.1=y1:=by rw [hy]
  have HDead:Hid (endedIn h pre y1=true→livF h (pre++[x])=livF h pre):=fun he=>livF_snoc_dead h pre x (by rw [e21];exact he)
  have HLive:Hid (endedIn h pre y1=false→livF h (pre++[x])=livF h pre++[x]):=fun he=>livF_snoc h pre x (by rw [e21];exact he)
  have HE:Hid (endedIn h (pre++[x])=fun t=>(endedIn h pre t || decide (y1=t∧(y0=4∨y0=5)))):=by
   show _=_
   funext t
   rw [endedIn_snoc,hy]
  have ki:=key8i hgx.2.1
  rw [e21] at ki
  clear e21 hgx
  rw [hy] at hblk ⊢
  simp only at hblk
  clear hy
  have q0:=hblk.cell 0 _ rfl
  have q1:=hblk.cell 1 _ rfl
  have q2:=hblk.cell 2 _ rfl
  have q3:=hblk.cell 3 _ rfl
  obtain ⟨i,hxi⟩:∃ i,x.val=i:=⟨_,rfl⟩
  have HI:Hid (x.val=i):=hxi
  rw [hxi] at hxn ⊢
  clear hxi
  have c1:=hS.bb.cell
  obtain ⟨D,hown,hD⟩:=hS.bm
  have hDy:=hD y1
  have lenx:(pre++[x]).length=pre.length+1:=by simp
  have LX:Hid ((pre++[x]).length=pre.length+1):=lenx
  clear lenx
  have bU:=(Below.refl W.heap.size W).alloc (Nat.le_refl _) (.cells #[] 131)
  cases he:endedIn h pre y1 with
  | true =>
    rw [he] at hDy
    have HF:Hid (KeepsFrom W0.heap.size W (W.alloc (.cells #[] 131))∧KpE w0.heap.size (V.heap.size+1+1+1) W (W.alloc (.cells #[] 131))∧(J (livF h (pre++[x])) (W.alloc (.cells #[] 131))∧VSt V l (.slice a h.length cap) (pre++[x]).length (endedIn h (pre++[x])) (W.alloc (.cells #[] 131))∧Below V.heap.size V V)):=by
     refine ⟨(KeepsOthers.alloc _ _).from _,⟨bU.mono (by omega),bU.block _ (by omega)⟩,by rw [HDead.out he];exact own_step hJ hj bU,?_,Below.refl _ _⟩
     have hS':=hS.bel (bU.mono hsz)
     refine ⟨hS'.size,hS'.by_,?_,hS'.bb,hS'.be⟩
     rw [LX.out,HE.out]
     have e:(fun t=>(endedIn h pre t || decide (y1=t∧(y0=4∨y0=5))))=endedIn h pre:=by
      funext t
      by_cases ht:y1=t
      ·subst ht;rw [he];rfl
      ·rw [decide_eq_false (fun hh=>ht hh.1),Bool.or_false]
     rw [e]
     exact hS'.bm.mono (Nat.le_succ _)
    clear hS hj HDead HLive HE hY hJ hJx he
    gi_wp2_with (gi_at_lookup;refine wpListIn_lookup_own_unit _ rfl _ _ 130 rfl 3 131 law8i Tryz.underlying130 (zero8u _) (V.heap.size+1) pre.length D rfl hown _ _ rfl ki ?_;rw [hDy])
    exact HF.out
  | false =>
    rw [he] at hDy
    have C:=pends_any y0 y1 y2 y3 (W.alloc (.cells #[] 131))
    have q0':=cell_bel bU q0
    have q1':=cell_bel bU q1
    have q2':=cell_bel bU q2
    have q3':=cell_bel bU q3
    by_cases hm:y0=4∨y0=5
    ·rw [decide_eq_true hm] at C
     have HM:Hid (y0=4∨y0=5):=hm
     clear hm
     gi_wp2_with (first
      | (gi_at_lookup;refine wpListIn_lookup_own_unit _ rfl _ _ 130 rfl 3 131 law8i Tryz.underlying130 (zero8u _) (V.heap.size+1) pre.length D rfl hown _ _ rfl ki ?_;rw [hDy])
      | ((try refine ⟨trivial,?_⟩);gi_at_call 67;refine (CallsIn.inRound l' (callsIn_wide.2 C)).mono ?_;clear C;rintro e W1 ⟨rfl,b1⟩;refine Hid.out ?_))
     have bW1:Below W.heap.size W W1:=bU.trans (b1.mono (by simp))
     have s1:=bW1.size
     have hS1:=hS.bel (bW1.mono hsz)
     have x1:=hblk.below bW1
     have c2:=hS1.bb.cell
     have r0:=x1.cell 0 _ rfl
     have r1:=x1.cell 1 _ rfl
     have r2:=x1.cell 2 _ rfl
     have r3:=x1.cell 3 _ rfl
     obtain ⟨D1,hown1,hD1⟩:=hS1.bm
     have j1:J (livF h pre) W1:=own_step hJ hj bW1
     clear hD hown hDy q0 q1 q2 q3 q0' q1' q2' q3' c1
     refine Lib.hid ?_
     gi_wp2_with (gi_at_mapUpdate;refine wpListIn_mapUpdate_own _ rfl _ _ _ 130 rfl 3 131 law8i Tryz.underlying130 _ (V.heap.size+1) pre.length D1 rfl hown1 (by unfold maxLen;omega) _ _ _ rfl rfl ki _ [] unitElem_mk ?_;intro W2 hown2 hg2;refine Hid.out ?_)
     have hS2:VSt V l (.slice a h.length cap) (pre++[x]).length (endedIn h (pre++[x])) W2:=by
      have e:(fun t=>(endedIn h pre t || decide (y1=t∧(y0=4∨y0=5))))=fun t=>(endedIn h pre t || decide (y1=t)):=by
       funext t
       congr 1
       rw [decide_eq_decide]
       exact ⟨fun hh=>hh.1,fun hh=>⟨hh,HM.out⟩⟩
      rw [LX.out,HE.out,e]
      exact hS1.turn hg2 (ISet.put hD1 hown1.isMap y1 hown2)
     have j2:J (livF h pre) W2:=hJ _ _ _ _ j1 hg2 (fun r e=>by
      cases e
      obtain ⟨es,cl,hb,_⟩:=hown1
      exact ⟨by omega,_,hb,rfl⟩)
     have x2:SBox W2 Bx 49 _:=(hg2.block Bx x1.lt (by simp;omega)).trans x1
     have KK:KeepsFrom W0.heap.size W W2:=by
      have hw0:=HW0.out
      exact ((keeps_of_below bW1).from _).trans (KeepsFrom.of_grownBy hg2 (fun j e=>by cases e;omega))
     have BB:Below w0.heap.size W W2:=(bW1.mono (by omega)).grown hg2 (by omega) (fun k e=>by cases e;omega)
     have EB:W2.heap[V.heap.size+1+1+1]?=W.heap[V.heap.size+1+1+1]?:=(hg2.block _ (by omega) (fun e=>by have:=Option.some.inj e;omega)).trans (bW1.block _ (by omega))
     clear hS1 j1 x1 bW1 b1 c2 r0 r1 r2 r3 hown1 hD1 hown2 hg2 hS hj bU HM
     obtain ⟨fn,tmps,assign,body,hy,hR⟩:=yield_any (5 - 1 - 1 - 1) (hY _ x W2 j2 (by have:=livF_len h pre;omega) hS2.size)
     have hyx:=HY.out
     have hix:=HI.out
     simp only [ixV,evW,hyx] at hy
     rw [hix] at hy
     clear hyx hix
     have r0:=x2.cell 0 _ rfl
     have r1:=x2.cell 1 _ rfl
     have r2:=x2.cell 2 _ rfl
     have r3:=x2.cell 3 _ rfl
     have cy:=hS2.by_.cell
     refine Lib.hid ?_
     gi_wp2
     refine RoundIn.mono (show RoundIn (Fence.wide.inRound l') _ _ _ _ _ _ _ _ _ from hR) ?_
     rintro e W3 (⟨rfl,hJ3,hk3,hf3⟩ | ⟨rfl,hJx3,hf3⟩)
     ·have HF:Hid (KeepsFrom W0.heap.size W W3∧KpE w0.heap.size (V.heap.size+1+1+1) W W3∧(J (livF h (pre++[x])) W3∧VSt V l (.slice a h.length cap) (pre++[x]).length (endedIn h (pre++[x])) W3∧Below V.heap.size V V)):=by
       have hw0:=HW0.out
       refine ⟨KK.trans (keeps_far hf3 (by omega)),⟨BB.trans hk3.below,(hk3.own _ (by omega) (by omega)).trans EB⟩,by rw [HLive.out he];exact hJ3,hS2.own hf3.size (fun j h1 h2=>hk3.own j h1 h2),Below.refl _ _⟩
      clear hS2 hk3 hf3 hJ3 HLive HE hY hJ hJx he
      gi_wp2
      exact HF.out
     ·have hlv:=HLive.out he
      have hw0:=HW0.out
      have HF:Hid (KeepsFrom W0.heap.size W W3∧Jx (livF h (pre++[x])) W3):=⟨KK.trans (keeps_far hf3 (by omega)),by rw [hlv];exact hJx3⟩
      clear hS2 hf3 hJx3 HLive HE hY hJ hJx he hlv hw0
      gi_wp2
      exact ⟨HF.out.1,rfl,HF.out.2⟩
    ·rw [decide_eq_false hm] at C
     have HM:Hid (¬ (y0=4∨y0=5)):=hm
     clear hm
     gi_wp2_with (first
      | (gi_at_lookup;refine wpListIn_lookup_own_unit _ rfl _ _ 130 rfl 3 131 law8i Tryz.underlying130 (zero8u _) (V.heap.size+1) pre.length D rfl hown _ _ rfl ki ?_;rw [hDy])
      | ((try refine ⟨trivial,?_⟩);gi_at_call 67;refine (CallsIn.inRound l' (callsIn_wide.2 C)).mono ?_;clear C;rintro e W2 ⟨rfl,b1⟩;refine Hid.out ?_))
     have bW1:Below W.heap.size W W2:=bU.trans (b1.mono (by simp))
     have s1:=bW1.size
     have hS2:VSt V l (.slice a h.length cap) (pre++[x]).length (endedIn h (pre++[x])) W2:=by
      have e:(fun t=>(endedIn h pre t || decide (y1=t∧(y0=4∨y0=5))))=endedIn h pre:=by
       funext t
       rw [decide_eq_false (fun hh=>HM.out hh.2),Bool.or_false]
      have hS1:=hS.bel (bW1.mono hsz)
      rw [LX.out,HE.out,e]
      exact ⟨hS1.size,hS1.by_,hS1.bm.mono (Nat.le_succ _),hS1.bb,hS1.be⟩
     have j2:J (livF h pre) W2:=own_step hJ hj bW1
     have x2:SBox W2 Bx 49 _:=hblk.below bW1
     have KK:KeepsFrom W0.heap.size W W2:=(keeps_of_below bW1).from _
     have BB:Below w0.heap.size W W2:=bW1.mono (by omega)
     have EB:W2.heap[V.heap.size+1+1+1]?=W.heap[V.heap.size+1+1+1]?:=bW1.block _ (by omega)
     clear hD hown hDy q0 q1 q2 q3 q0' q1' q2' q3' c1 bW1 b1 hS hj bU HM
     obtain ⟨fn,tmps,assign,body,hy,hR⟩:=yield_any (5 - 1 - 1 - 1) (hY _ x W2 j2 (by have:=livF_len h pre;omega) hS2.size)
     have hyx:=HY.out
     have hix:=HI.out
     simp only [ixV,evW,hyx] at hy
     rw [hix] at hy
     clear hyx hix
     have r0:=x2.cell 0 _ rfl
     have r1:=x2.cell 1 _ rfl
     have r2:=x2.cell 2 _ rfl
     have r3:=x2.cell 3 _ rfl
     have cy:=hS2.by_.cell
     refine Lib.hid ?_
     gi_wp2
     refine RoundIn.mono (show RoundIn (Fence.wide.inRound l') _ _ _ _ _ _ _ _ _ from hR) ?_
     rintro e W3 (⟨rfl,hJ3,hk3,hf3⟩ | ⟨rfl,hJx3,hf3⟩)
     ·have HF:Hid (KeepsFrom W0.heap.size W W3∧KpE w0.heap.size (V.heap.size+1+1+1) W W3∧(J (livF h (pre++[x])) W3∧VSt V l (.slice a h.length cap) (pre++[x]).length (endedIn h (pre++[x])) W3∧Below V.heap.size V V)):=by
       have hw0:=HW0.out
       refine ⟨KK.trans (keeps_far hf3 (by omega)),⟨BB.trans hk3.below,(hk3.own _ (by omega) (by omega)).trans EB⟩,by rw [HLive.out he];exact hJ3,hS2.own hf3.size (fun j h1 h2=>hk3.own j h1 h2),Below.refl _ _⟩
      clear hS2 hk3 hf3 hJ3 HLive HE hY hJ hJx he
      gi_wp2
      exact HF.out
     ·have hlv:=HLive.out he
      have hw0:=HW0.out
      have HF:Hid (KeepsFrom W0.heap.size W W3∧Jx (livF h (pre++[x])) W3):=⟨KK.trans (keeps_far hf3 (by omega)),by rw [hlv];exact hJx3⟩
      clear hS2 hf3 hJx3 HLive HE hY hJ hJx he hlv hw0
      gi_wp2
      exact ⟨HF.out.1,rfl,HF.out.2⟩
 case done =>
  rintro D ys W hD rfl ⟨hj,hS,_⟩ hK
  have HD:Hid (V.heap.size+1+1+1+1≤D):=by rw [sW0] at hD;exact hD
  clear sW0 hS0 hD
  gi_wp2
  refine ⟨by simp,.inl ⟨_,_,rfl,run_takeDeferred hK,?_⟩⟩
  exact ⟨_,results_none rfl _ _ _,⟨_,rfl⟩,.inl ⟨_,rfl,hJ.putObj _ hj (by have:=HD.out;omega) hK rfl⟩⟩
 case stop =>
  rintro D c pre W hD hSp ⟨rfl,hj⟩ hK
  have HD:Hid (V.heap.size+1+1+1+1≤D):=by rw [sW0] at hD;exact hD
  clear sW0 hS0 hD
  gi_wp2
  refine ⟨by simp,.inl ⟨_,_,rfl,run_takeDeferred hK,?_⟩⟩
  exact ⟨_,results_none rfl _ _ _,⟨_,rfl⟩,.inr ⟨_,livF_prefix h hSp,hJx.putObj _ hj (by have:=HD.out;omega) hK rfl⟩⟩
theorem living8_stops (h:List Ev) (w0:World) (a:Option Addr) (cap:Nat) (hT:IsEvs w0 (.slice a h.length cap) h) (hG:∀ x∈h,goodE x) (hn:h.length≤300) (bh k l:Nat) (w V:World) (hW:Below w0.heap.size w0 w) (hbox:Boxed w bh 22 (.slice a h.length cap)) (hV:Below w.heap.size w V) :
 SeqStopsW Fence.wide k Tryz.prog 96 #[.pointer (some ⟨bh,0,none⟩)] (fun x:Fin h.length=>ixV h x) (KpL w0.heap.size bh V.heap.size) (fun ys=>ys=livP h) (fun pre=>pre <+: livP h) h.length (V.heap.size+1+1+1+1) l V :=
 fun J Jx hJ hJx hY h0=>living8_in h w0 a cap hT hG hn bh k l V (hW.trans (hV.mono hW.size)) (boxed_below7 hbox hV) J Jx hJ hJx hY h0
end Go.Proofs.YtiihegldhnlleaaGreat
namespace Go.Proofs.YtiihegldhnlleaaGreat
set_option maxRecDepth 100000
open Go.RowKit Go.Shelf Go.Maps
set_option linter.unusedVariables false
structure ZSt (w:World) (t0:TypeId) (v0:Value) (t1 e k:Nat) (sl v:Value) (m:Nat) (f:Int→Option Int) (n:Nat) (xs:List Value) (W:World):Prop where
 below:Below w.heap.size w W
 size:w.heap.size+1+1+1+1+1≤W.heap.size
 b0:Boxed W (w.heap.size) t0 v0
 bv:Boxed W (w.heap.size+1) t1 v
 bm:IMap W (w.heap.size+1+1) m f
 bb:Boxed W (w.heap.size+1+1+1) 97 (.map (some (w.heap.size+1+1)))
 be:Boxed W (w.heap.size+1+1+1+1) 22 sl
 row:W.ownsRow w.heap.size e k v n xs
 far:∀ g,v.ownBlock=some g→w.heap.size+1+1+1+1+1+1+1+1+1+1+1≤g
section
variable {w:World} {t0:TypeId} {v0:Value} {t1 e k:Nat} {sl v:Value} {m:Nat} {f:Int→Option Int} {n:Nat} {xs:List Value} {W W':World} {row:Option Nat}
theorem ZSt.turn (h:ZSt w t0 v0 t1 e k sl v m f n xs W) (hg:W.grownBy W' row) (hr:∀ r,row=some r→w.heap.size+1+1+1+1+1≤r∧∃ o:Obj,W.heap[r]?=some o∧o.isCells=false):ZSt w t0 v0 t1 e k sl v m f n xs W':=by
 have o:∀ j,j < w.heap.size+1+1+1+1+1→some j≠row:=fun j hj e=>by have:=(hr j e.symm).1;omega
 exact ⟨h.below.grown hg (by have:=h.size;omega) (fun r e=>by have:=(hr r e).1;omega),Nat.le_trans h.size hg.size,h.b0.kept hg (o _ (by omega)),h.bv.kept hg (o _ (by omega)),h.bm.kept hg (o _ (by omega)),h.bb.kept hg (o _ (by omega)),h.be.kept hg (o _ (by omega)),owns_turn h.row hg (fun r e=>(hr r e).2),h.far⟩
theorem ZSt.bel (h:ZSt w t0 v0 t1 e k sl v m f n xs W) (hb:Below W.heap.size W W'):ZSt w t0 v0 t1 e k sl v m f n xs W':=h.turn (grown_below8 none hb) (fun r e=>by cases e)
theorem ZSt.map {m':Nat} {f':Int→Option Int} (h:ZSt w t0 v0 t1 e k sl v m f n xs W) (hg:W.grownBy W' (some (w.heap.size+1+1))) (hf:IMap W' (w.heap.size+1+1) m' f'):ZSt w t0 v0 t1 e k sl v m' f' n xs W':=by
 have o:∀ j,j≠w.heap.size+1+1→some j≠some (w.heap.size+1+1):=fun j hj e=>hj (Option.some.inj e)
 refine ⟨h.below.grown hg (by have:=h.size;omega) (fun r e=>by cases e;omega),Nat.le_trans h.size hg.size,h.b0.kept hg (o _ (by omega)),h.bv.kept hg (o _ (by omega)),hf,h.bb.kept hg (o _ (by omega)),h.be.kept hg (o _ (by omega)),h.row.kept hg ?_,h.far⟩
 cases hv:v.ownBlock with
 | none=>exact .inl rfl
 | some g=>exact .inr (fun e=>by have:=h.far g hv;have:=Option.some.inj e;omega)
theorem ZSt.keep (h:ZSt w t0 v0 t1 e k sl v m f n xs W) {m':Nat} {f':Int→Option Int} (hm:m≤m') (hf:f'=f):ZSt w t0 v0 t1 e k sl v m' f' n xs W:=by
 rw [hf]
 exact ⟨h.below,h.size,h.b0,h.bv,h.bm.mono hm,h.bb,h.be,h.row,h.far⟩
theorem ZSt.app {v':Value} {n':Nat} {ys:List Value} {tmp:Obj} (h:ZSt w t0 v0 t1 e k sl v m f n xs W) (hs:w.heap.size+1+1+1+1+1+1+1+1+1+1+1≤W.heap.size) (hown:W'.ownsRow w.heap.size e k v' n' ys) (hg:(W.alloc tmp).grownBy W' v.ownBlock) (hat:v'.ownBlock=v.ownBlock∨v'.ownBlock=some (W.heap.size+1)) :
 ZSt w t0 v0 t1 e k sl v' m f n' ys (W'.setCell ⟨w.heap.size+1,0,none⟩ v'):=by
 have hfar:∀ g,v'.ownBlock=some g→w.heap.size+1+1+1+1+1+1+1+1+1+1+1≤g:=fun g hv=>by
  rcases hat with e | e
  ·exact h.far g (by rw [← e];exact hv)
  ·rw [hv] at e
   have:=Option.some.inj e
   omega
 have o:∀ j,j < w.heap.size+1+1+1+1+1→some j≠v.ownBlock:=fun j hj e=>by have:=h.far j e.symm;omega
 have hsz:=hg.size
 rw [World.size_alloc] at hsz
 have hb:Below w.heap.size w W':=(h.below.alloc h.below.size _).grown hg (by simp;have:=h.size;omega) (fun r e=>by have:=h.far r e;omega)
 refine ⟨hb.setCell (p:=⟨w.heap.size+1,0,none⟩) (by first | (simp;done) | (simp;omega)) _,by simp;omega,((h.b0.alloc _).kept hg (o _ (by omega))).other (by omega) _,((h.bv.alloc _).kept hg (o _ (by omega))).set _,?_,((h.bb.alloc _).kept hg (o _ (by omega))).other (by omega) _,((h.be.alloc _).kept hg (o _ (by omega))).other (by omega) _,owns_keep7 (g:=w.heap.size+1) (j:=0) hown _ (fun e=>by have:=hfar _ e.symm;omega),hfar⟩
 refine IMap.same (W:=W') ((h.bm.kept (World.grownBy_alloc _ tmp none) (by simp)).kept hg (o _ (by omega))) ?_
 exact Below.heap_setCell _ _ _ _ (by simp)
end
theorem kpL_grown {n b A:Nat} {W W':World} {row:Option Nat} (hn:n≤W.heap.size) (hb:b < W.heap.size) (hA:A+1+1+1+1≤W.heap.size) (hg:W.grownBy W' row) (hr:∀ r,row=some r→n≤r∧r≠b∧(r < A∨A+1+1+1+1≤r)):KpL n b A W W' :=
 ⟨(Below.refl n W).grown hg hn (fun r e=>(hr r e).1),hg.block b hb (fun e=>(hr b e.symm).2.1 rfl),fun j h1 h2=>hg.block j (by omega) (fun e=>by have:=(hr j e.symm).2.2;omega)⟩
theorem kpL_bel {n b A:Nat} {W W':World} (hn:n≤W.heap.size) (hb:b < W.heap.size) (hA:A+1+1+1+1≤W.heap.size) (h:Below W.heap.size W W'):KpL n b A W W':=kpL_grown hn hb hA (grown_below8 none h) (fun r e=>by cases e)
theorem kpL_put {n b A l:Nat} {W:World} (hn:n≤l) (hb:b < l) (hl:l < A) (o:Loop) (h:W.heap[l]?=some (.loop o)) (o':Loop):KpL n b A W (W.putObj l (.loop o')):=by
 have hlt:l < W.heap.size:=(Array.getElem?_eq_some_iff.1 h).1
 refine ⟨(Below.refl n W).grown (grownBy_putObj' W l _) (by omega) (fun r e=>by cases e;exact hn),World.putObj_heap_other (by omega),fun j h1 h2=>World.putObj_heap_other (by omega)⟩
end Go.Proofs.YtiihegldhnlleaaGreat
namespace Go.Proofs.YtiihegldhnlleaaGreat
set_option maxRecDepth 100000
set_option linter.unusedVariables false
def updN (f:Int→Option Nat) (t:Int) (k:Nat):Int→Option Nat:=fun u=>if u=t then some k else f u
def lastS (h:List Ev) (key:List UInt8) (f:Int→Option Nat) (x:Fin h.length):Int→Option Nat:=if h[x.val].1=3∧h[x.val].2.2.1=key then updN f h[x.val].2.1 x.val else f
def versS (h:List Ev) (key:List UInt8) (s:(Int→Option Nat) × List Nat) (x:Fin h.length):(Int→Option Nat) × List Nat :=
 (lastS h key s.1 x,if h[x.val].1=4 then s.2++(lastS h key s.1 x h[x.val].2.1).toList else s.2)
def versF (h:List Ev) (key:List UInt8) (pre:List (Fin h.length)):(Int→Option Nat) × List Nat:=pre.foldl (versS h key) (fun _=>none,[])
theorem versF_snoc (h:List Ev) (key:List UInt8) (pre:List (Fin h.length)) (x:Fin h.length):versF h key (pre++[x])=versS h key (versF h key pre) x:=by
 unfold versF
 rw [List.foldl_append]
 rfl
theorem versF_len (h:List Ev) (key:List UInt8) (x:Fin h.length) (s:(Int→Option Nat) × List Nat):(versS h key s x).2.length≤s.2.length+1:=by
 unfold versS
 simp only
 by_cases h4:h[x.val].1=4
 ·rw [if_pos h4,List.length_append]
  cases lastS h key s.1 x h[x.val].2.1<;>simp
 ·rw [if_neg h4];omega
theorem endL_upto {h:List Ev} {t:Int} {k:Nat} (he:endL h t k=none) (hx:(ev h k).2.1=t) (h4:(ev h k).1=4∨(ev h k).1=5) (hk:k < h.length):endL h t h.length=some k:=(endL_some h t h.length k).2 ⟨hk,⟨hx,h4⟩,(endL_none h t k).1 he⟩
theorem vers_take (h:List Ev) (key:List UInt8):∀ k,k≤h.length →
 (versF h key (livF h ((List.finRange h.length).take k))).2=(List.range k).filterMap (verOf h key)∧∀ t,endL h t k=none→(versF h key (livF h ((List.finRange h.length).take k))).1 t=lastN h t key k
 | 0,_=>⟨rfl,fun t _=>rfl⟩
 | k+1,hk=>by
   obtain ⟨ih1,ih2⟩:=vers_take h key k (by omega)
   have hk':k < h.length:=by omega
   rw [fin_take hk']
   have hd:=endedIn_take h k (by omega) h[k].2.1
   have ek:=ev_get h k hk'
   rw [List.range_succ,List.filterMap_append]
   cases he:endL h h[k].2.1 k with
   | some e =>
     rw [he] at hd
     rw [livF_snoc_dead h _ ⟨k,hk'⟩ hd]
     constructor
     ·rw [ih1]
      have:verOf h key k=none:=by
       unfold verOf
       rw [if_neg]
       rintro ⟨_,h2⟩
       rw [ek] at h2
       obtain ⟨e1,e2,e3⟩:=(endL_some h _ _ _).1 he
       exact ((endL_some h _ _ _).1 h2).2.2 e (by omega) e2
      simp [this]
     ·intro t ht
      have hne:(ev h k).2.1≠t:=by
       intro hh
       rw [ek] at hh
       rw [hh] at he
       obtain ⟨e1,e2,e3⟩:=(endL_some h _ _ _).1 he
       exact (endL_none h t (k+1)).1 ht e (by omega) e2
      have h0:endL h t k=none:=(endL_none h t k).2 (fun j hj=>(endL_none h t (k+1)).1 ht j (by omega))
      rw [ih2 t h0]
      show _=la _ (k+1)
      rw [la,if_neg]
      ·rfl
      ·unfold isWrT
       rw [decide_eq_true_eq]
       exact fun hh=>hne hh.2.1
   | none =>
     rw [he] at hd
     rw [livF_snoc h _ ⟨k,hk'⟩ hd,versF_snoc]
     generalize hs:versF h key (livF h ((List.finRange h.length).take k))=s at ih1 ih2
     have hl:(lastS h key s.1 ⟨k,hk'⟩) h[k].2.1=lastN h h[k].2.1 key (k+1):=by
      show _=la _ (k+1)
      rw [la]
      unfold lastS
      simp only
      by_cases hw:h[k].1=3∧h[k].2.2.1=key
      ·rw [if_pos hw,if_pos]
       ·unfold updN;rw [if_pos rfl]
       ·unfold isWrT;rw [ek,decide_eq_true_eq];exact ⟨hw.1,rfl,hw.2⟩
      ·rw [if_neg hw,if_neg]
       ·exact ih2 _ he
       ·unfold isWrT;rw [ek,decide_eq_true_eq];exact fun hh=>hw ⟨hh.1,hh.2.2⟩
     constructor
     ·show (if h[k].1=4 then s.2++(lastS h key s.1 ⟨k,hk'⟩ h[k].2.1).toList else s.2)=_
      by_cases h4:h[k].1=4
      ·rw [if_pos h4,ih1,hl]
       have h3:¬ isWrT h h[k].2.1 key k=true:=by
        unfold isWrT;rw [ek,decide_eq_true_eq];rintro ⟨hh,_⟩;rw [h4] at hh;cases hh
       have:verOf h key k=lastN h h[k].2.1 key (k+1):=by
        unfold verOf
        rw [ek,if_pos ⟨h4,endL_upto he (by rw [ek]) (by rw [ek];exact Or.inl h4) hk'⟩]
        show _=la _ (k+1)
        rw [la,if_neg h3]
        rfl
       rw [← this]
       have e:List.filterMap (verOf h key) [k]=(verOf h key k).toList:=by cases hv:verOf h key k<;>simp [hv]
       rw [e]
      ·rw [if_neg h4,ih1]
       have:verOf h key k=none:=by
        unfold verOf
        rw [if_neg]
        rintro ⟨h1,_⟩
        rw [ek] at h1
        exact h4 h1
       simp [this]
     ·intro t ht
      by_cases hne:h[k].2.1=t
      ·subst hne;exact hl
      ·have h0:endL h t k=none:=(endL_none h t k).2 (fun j hj=>(endL_none h t (k+1)).1 ht j (by omega))
       show lastS h key s.1 ⟨k,hk'⟩ t=la _ (k+1)
       rw [la,if_neg]
       ·unfold lastS
        simp only
        by_cases hw:h[k].1=3∧h[k].2.2.1=key
        ·rw [if_pos hw]
         unfold updN
         rw [if_neg (fun e=>hne e.symm)]
         exact ih2 t h0
        ·rw [if_neg hw];exact ih2 t h0
       ·unfold isWrT
        rw [ek,decide_eq_true_eq]
        exact fun hh=>hne hh.2.1
theorem vers_liv (h:List Ev) (key:List UInt8):(versF h key (livP h)).2=versL h key:=by
 have:=(vers_take h key h.length (Nat.le_refl _)).1
 rwa [List.take_of_length_le (by rw [List.length_finRange];exact Nat.le_refl _)] at this
open Go.RowKit Go.Shelf Go.Maps
attribute [local go_sem] Oper.semAt_some ba_size
def oIf (f:Int→Option Nat):Int→Option Int:=fun t=>(f t).map Int.ofNat
theorem oIf_upd (f:Int→Option Nat) (t:Int) (k:Nat):updI (oIf f) t (k:Int)=oIf (updN f t k):=by
 funext u
 unfold updI oIf updN
 by_cases h:u=t
 ·rw [if_pos h,if_pos h];rfl
 ·rw [if_neg h,if_neg h]
theorem versF_few (h:List Ev) (key:List UInt8):∀ (pre:List (Fin h.length)) (s:(Int→Option Nat) × List Nat),(pre.foldl (versS h key) s).2.length≤s.2.length+pre.length
 | [],s=>Nat.le_refl _
 | x::pre,s=>by
   have h1:=versF_few h key pre (versS h key s x)
   have h2:=versF_len h key x s
   rw [List.foldl_cons,List.length_cons]
   omega
theorem versF_le (h:List Ev) (key:List UInt8) (pre:List (Fin h.length)):(versF h key pre).2.length≤pre.length:=by have:=versF_few h key pre (fun _=>none,[]);simpa [versF] using this
theorem recI_snoc (L:List Int) (x:Int):recV intV (L++[x])=recV intV L++[.int .i64 x]:=by rw [recV_append];rfl
def ZInv (w:World) (key:List UInt8) (sl:Value) (h:List Ev) (pre:List (Fin h.length)) (W:World):Prop :=
 ∃ v,ZSt w 9 (.string ⟨key.toArray⟩) 23 3 1 sl v pre.length (oIf (versF h key pre).1) ((versF h key pre).2.map Int.ofNat).length (recV intV ((versF h key pre).2.map Int.ofNat)) W
set_option maxHeartbeats 4000000 in
theorem pvers8_any (h:List Ev) (v:Value) (w:World) (key:List UInt8) (hT:IsEvs w v h) (hG:∀ x∈h,goodE x) (hn:h.length≤300) :
 Calls Tryz.prog 103 #[v,.string ⟨key.toArray⟩] w fun e w'=>InRow w ((versL h key).map Int.ofNat) e w':=by
 have hT0:=hT
 obtain ⟨a,cap,rfl,h1,h2,h3,HC⟩:=hT.some_at
 clear HC hT
 have hmm:=@run_makeMap Tryz.prog
 obtain ⟨i0,hi,hz0,hz1,hz2⟩:=info_parts int_info
 refine (callsIn_wide (n:=8)).1 ?_
 refine callsIn_of_wp_marks Tryz.func103 rfl trivial ?_ rfl
 simp only [Tryz.ntmps103,List.size_toArray,List.length_cons,List.length_nil,Nat.reduceAdd,Nat.reduceSub,Array.replicate_succ,Array.replicate_zero,List.push_toArray,List.append_toArray,List.nil_append,List.cons_append]
 gi_wp2_with ((try refine ⟨trivial,?_⟩);gi_at_call 66;refine (callsIn_wide.2 (pliving_any _ _ _ _)).mono ?_;rintro e w2 ⟨rfl,rfl⟩)
 have hS0:ZSt w 9 (.string ⟨key.toArray⟩) 23 3 1 (.slice a h.length cap) (.slice none 0 0) 0 (oIf (fun _=>none)) 0 [] (((((w.alloc (.cells #[.string ⟨key.toArray⟩] 9)).alloc (.cells #[.slice none 0 0] 23)).alloc (.map #[] 0)).alloc (.cells #[.map (some (w.heap.size+1+1))] 97)).alloc (.cells #[.slice a h.length cap] 22)):=by
  have b0:=((((Boxed.new w 9 (.string ⟨key.toArray⟩)).alloc (.cells #[.slice none 0 0] 23)).alloc (.map #[] 0)).alloc (.cells #[.map (some (w.heap.size+1+1))] 97)).alloc (.cells #[.slice a h.length cap] 22)
  have b1:=(((Boxed.new (w.alloc (.cells #[.string ⟨key.toArray⟩] 9)) 23 (.slice none 0 0)).alloc (.map #[] 0)).alloc (.cells #[.map (some (w.heap.size+1+1))] 97)).alloc (.cells #[.slice a h.length cap] 22)
  have b2:=((IMap.made ((w.alloc (.cells #[.string ⟨key.toArray⟩] 9)).alloc (.cells #[.slice none 0 0] 23))).kept (World.grownBy_alloc _ (.cells #[.map (some (w.heap.size+1+1))] 97) none) (by simp)).kept (World.grownBy_alloc _ (.cells #[.slice a h.length cap] 22) none) (by simp)
  have b3:=(Boxed.new (((w.alloc (.cells #[.string ⟨key.toArray⟩] 9)).alloc (.cells #[.slice none 0 0] 23)).alloc (.map #[] 0)) 97 (.map (some (w.heap.size+1+1)))).alloc (.cells #[.slice a h.length cap] 22)
  have b4:=Boxed.new ((((w.alloc (.cells #[.string ⟨key.toArray⟩] 9)).alloc (.cells #[.slice none 0 0] 23)).alloc (.map #[] 0)).alloc (.cells #[.map (some (w.heap.size+1+1))] 97)) 22 (.slice a h.length cap)
  simp only [World.size_alloc] at b0 b1 b2 b3 b4
  exact ⟨(((((Below.refl _ w).alloc (Nat.le_refl _) _).alloc (by simp) _).alloc (by simp;omega) _).alloc (by simp;omega) _).alloc (by simp;omega) _,by simp,b0,b1,b2,b3,b4,World.ownsRow_nil _ _ _ _,fun g hg=>by simp [Value.ownBlock] at hg⟩
 obtain ⟨W0,hW0⟩:∃ W0,(((((w.alloc (.cells #[.string ⟨key.toArray⟩] 9)).alloc (.cells #[.slice none 0 0] 23)).alloc (.map #[] 0)).alloc (.cells #[.map (some (w.heap.size+1+1))] 97)).alloc (.cells #[.slice a h.length cap] 22))=W0:=⟨_,rfl⟩
 have sW0:W0.heap.size=w.heap.size+1+1+1+1+1:=by rw [← hW0];simp
 change Code.wpIn _ _ _ _ _ _ (((((w.alloc (.cells #[.string ⟨key.toArray⟩] 9)).alloc (.cells #[.slice none 0 0] 23)).alloc (.map #[] 0)).alloc (.cells #[.map (some (w.heap.size+1+1))] 97)).alloc (.cells #[.slice a h.length cap] 22))
 rw [hW0] at hS0 ⊢
 clear hW0
 refine rangeFunc_C rfl (by omega) (gf:=96) (lb:=#[.pointer (some ⟨w.heap.size+1+1+1+1,0,none⟩)]) rfl trivial (enters_of Tryz.func96 (by kernel_rfl) rfl)
  (Kp:=KpL w.heap.size (w.heap.size+1+1+1+1) (w.heap.size+1+1+1+1+1+1+1)) (H:=w.heap.size+1+1+1+1+1+1+1+1+1+1+1) (S:=fun ys=>ys=livP h) (Sp:=fun pre=>pre <+: livP h) (N:=h.length)
  (fun V hV hs=>by
   have:=living8_stops h w a cap hT0 hG hn (w.heap.size+1+1+1+1) (8 - 1) (W0.heap.size+1) W0 V hS0.below hS0.be hV
   rw [hs,sW0] at this
   rw [sW0]
   exact this) (fun h k=>KpL.trans h k) (fun W o o' h=>by rw [sW0] at h ⊢;exact kpL_put (by omega) (by omega) (by omega) o h o') (fun _=>rfl)
  (ZInv w key (.slice a h.length cap) h) (fun _ _ _=>False)
  (fun s X Y row ⟨v,hs⟩ hg hr=>⟨v,hs.turn hg (fun r e=>⟨by have:=(hr r e).1;omega,(hr r e).2⟩)⟩)
  (fun _=>ownFrom_false _)
  ⟨_,hS0⟩
  (fun x a' W=>∃ Bx,w.heap.size+1+1+1+1+1+1+1+1+1+1+1≤Bx∧SBox W Bx 49 #[.int .i64 h[x.val].1,.int .i64 h[x.val].2.1,.string ⟨h[x.val].2.2.1.toArray⟩,.string ⟨h[x.val].2.2.2.toArray⟩]∧a'={ tmps:=#[.slice a h.length cap,.string ⟨key.toArray⟩,undef,.pointer (some ⟨w.heap.size,0,none⟩),.slice none 0 0,.pointer (some ⟨w.heap.size+1,0,none⟩),.pointer (some ⟨w.heap.size+1+1+1,0,none⟩),.int .i64 (x.val:Int),.pointer (some ⟨Bx,0,none⟩),undef,undef,.map (some (w.heap.size+1+1)),.slice a h.length cap,livingF (w.heap.size+1+1+1+1),.int .i64 (x.val:Int),evW h[x.val],undef,undef,undef,undef,undef,undef,undef,undef,undef,undef,undef,undef,undef,undef,undef,undef,undef,undef,undef,undef,undef,undef,undef,undef,undef],defers:=[] })
  (fun x a' _ A B row hs hg hr=>by
   obtain ⟨Bx,h1,h2,h4⟩:=hs
   exact ⟨Bx,h1,block_kept h2 hg (fun r e=>(hr r e).2),h4⟩)
  ?assign ?body ?done ?stop
 case assign =>
  rintro l pre x W K ⟨v,hS⟩ hH hK
  have hsz:=hS.size
  have b1:=(Below.refl W.heap.size W).alloc (Nat.le_refl _) (.cells #[.int .i64 h[x.val].1,.int .i64 h[x.val].2.1,.string ⟨h[x.val].2.2.1.toArray⟩,.string ⟨h[x.val].2.2.2.toArray⟩] 49)
  gi_wp2
  refine hK _ _ ((KeepsOthers.alloc _ _).from _) (kpL_bel (by omega) (by omega) (by omega) b1) ⟨v,hS.bel b1⟩ ⟨W.heap.size,by omega,SBox.new W _ _,rfl⟩
 case body =>
  rintro l pre x a' W ⟨v,hS⟩ hH ⟨Bx,hBx,hblk,rfl⟩ hlt
  have HW0:Hid (W0.heap.size=w.heap.size+1+1+1+1+1):=sW0
  clear sW0 hS0
  have hsz:=hS.size
  have hxn:=x.isLt
  have hgx:=hG h[x.val] (List.getElem_mem _)
  obtain ⟨⟨y0,y1,y2,y3⟩,hy⟩:∃ y,h[x.val]=y:=⟨_,rfl⟩
  have HV:Hid (versF h key (pre++[x])=versS h key (versF h key pre) x):=versF_snoc h key pre x
  have HLe:=versF_le h key pre
  obtain ⟨s,hs⟩:∃ s,versF h key pre=s:=⟨_,rfl⟩
  rw [hs] at hS HLe HV
  have HS:Hid (versS h key s x=(if y0=3∧y2=key then updN s.1 y1 x.val else s.1,if y0=4 then s.2++((if y0=3∧y2=key then updN s.1 y1 x.val else s.1) y1).toList else s.2)):=by
   show _=_
   unfold versS lastS
   rw [hy]
  clear hs
  rw [hy] at hblk hgx ⊢
  simp only at hblk hgx
  clear hy
  have ki:=key8i hgx.2.1
  clear hgx
  obtain ⟨i,hxi⟩:∃ i,x.val=i:=⟨_,rfl⟩
  rw [hxi] at hxn HS ⊢
  clear hxi
  have LX:Hid ((pre++[x]).length=pre.length+1):=by show _=_;simp
  have c0:=hS.b0.cell
  have q0:=hblk.cell 0 _ rfl
  have q1:=hblk.cell 1 _ rfl
  have q2:=hblk.cell 2 _ rfl
  have q3:=hblk.cell 3 _ rfl
  have C:=pwrites_any y0 y1 y2 y3 key W
  obtain ⟨s1,s2⟩:=s
  simp only at hS HLe HS
  by_cases hm:y0=3∧y2=key
  ·rw [decide_eq_true hm] at C
   have e4:(y0==4)=false:=by rw [hm.1];rfl
   have HR:Hid (versS h key (s1,s2) x=(updN s1 y1 i,s2)):=by
    show _=_
    rw [HS.out,if_pos hm,if_neg (by rw [hm.1];decide)]
   clear hm HS
   gi_wp2_with ((try refine ⟨trivial,?_⟩);gi_at_call 95;refine (CallsIn.inRound l (callsIn_wide.2 C)).mono ?_;clear C;rintro e W1 ⟨rfl,b1⟩;refine Hid.out ?_)
   have z1:=b1.size
   have hS1:=hS.bel b1
   have x1:=hblk.below b1
   have d1:=x1.cell 1 _ rfl
   have c3:=hS1.bb.cell
   obtain ⟨D1,hown1,hD1⟩:=hS1.bm
   clear c0 q0 q1 q2 q3
   refine Lib.hid ?_
   gi_wp2_with (gi_at_mapUpdate;refine wpListIn_mapUpdate_own _ rfl _ _ _ 97 rfl 3 3 law8i Tryz.underlying97 _ (w.heap.size+1+1) pre.length D1 rfl hown1 (by unfold maxLen;omega) _ _ _ rfl rfl ki _ [] (plainElem_int Tryz.underlying3 (WalkArith.wf_i64 (by omega))) ?_;intro W2 hown2 hg2;refine Hid.out ?_)
   have hS2:=hS1.map hg2 (IMap.put hD1 hown1.isMap y1 (i:Int) hown2)
   have x2:SBox W2 Bx 49 _:=(hg2.block Bx x1.lt (fun e=>by have:=Option.some.inj e;omega)).trans x1
   have z2:=hg2.size
   have KK:KeepsFrom W0.heap.size W W2:=by
    have hw0:=HW0.out
    exact ((keeps_of_below b1).from _).trans (KeepsFrom.of_grownBy hg2 (fun j e=>by cases e;omega))
   have KP:KpL w.heap.size (w.heap.size+1+1+1+1) (w.heap.size+1+1+1+1+1+1+1) W W2:=(kpL_bel (by omega) (by omega) (by omega) b1).trans (kpL_grown (by omega) (by omega) (by omega) hg2 (fun r e=>by cases e;omega))
   have HF:Hid (KeepsFrom W0.heap.size W W2∧KpL w.heap.size (w.heap.size+1+1+1+1) (w.heap.size+1+1+1+1+1+1+1) W W2∧ZInv w key (.slice a h.length cap) h (pre++[x]) W2):=by
    refine ⟨KK,KP,v,?_⟩
    rw [LX.out,HV.out,HR.out,← oIf_upd]
    exact hS2
   have d0:=x2.cell 0 _ rfl
   have d1:=x2.cell 1 _ rfl
   have c3:=hS2.bb.cell
   obtain ⟨D2,hown2,hD2⟩:=hS2.bm
   have hy1:=(hD2 y1).1
   have hu:updI (oIf s1) y1 (i:Int) y1=some (i:Int):=by unfold updI;rw [if_pos rfl]
   rw [hu] at hy1
   clear hS hS1 hS2 hD1 hD2 hown1 KK KP HR HV hu x1 x2
   refine Lib.hid ?_
   gi_wp2_with (gi_at_lookup;refine wpListIn_lookup_own_ok_int _ rfl _ _ 97 rfl 3 3 .i64 law8i Tryz.underlying97 Tryz.underlying3 (zero8i _) (w.heap.size+1+1) (pre.length+1) D2 rfl hown2 _ _ rfl ki ?_;rw [hy1];intro c hc hwc;clear hc hwc)
   exact HF.out
  ·rw [decide_eq_false hm] at C
   have HR:Hid (versS h key (s1,s2) x=(s1,if y0=4 then s2++(s1 y1).toList else s2)):=by
    show _=_
    rw [HS.out,if_neg hm]
   clear hm HS
   gi_wp2_with ((try refine ⟨trivial,?_⟩);gi_at_call 95;refine (CallsIn.inRound l (callsIn_wide.2 C)).mono ?_;clear C;rintro e W1 ⟨rfl,b1⟩;refine Hid.out ?_)
   have z1:=b1.size
   have hS1:=hS.bel b1
   have x1:=hblk.below b1
   have d0:=x1.cell 0 _ rfl
   have d1:=x1.cell 1 _ rfl
   have c3:=hS1.bb.cell
   have cv:=hS1.bv.cell
   have gv:=hS1.bv.frozen
   obtain ⟨D1,hown1,hD1⟩:=hS1.bm
   have hy1:=(hD1 y1).1
   have KK:KeepsFrom W0.heap.size W W1:=(keeps_of_below b1).from _
   have KP:KpL w.heap.size (w.heap.size+1+1+1+1) (w.heap.size+1+1+1+1+1+1+1) W W1:=kpL_bel (by omega) (by omega) (by omega) b1
   clear c0 q0 q1 q2 q3 hS
   cases hf:s1 y1 with
   | none =>
     have hy2:Maps.has D1 (.int .i64 y1)=false:=by rw [hy1];unfold oIf;rw [hf];rfl
     have HF:Hid (KeepsFrom W0.heap.size W W1∧KpL w.heap.size (w.heap.size+1+1+1+1) (w.heap.size+1+1+1+1+1+1+1) W W1∧ZInv w key (.slice a h.length cap) h (pre++[x]) W1):=by
      refine ⟨KK,KP,v,?_⟩
      have e:(if y0=4 then s2++(s1 y1).toList else s2)=s2:=by rw [hf];simp
      rw [LX.out,HV.out,HR.out,e]
      exact hS1.keep (Nat.le_succ _) rfl
     clear hS1 hD1 KK KP HR HV x1 hy1 hf
     refine Lib.hid ?_
     gi_wp2_with (gi_at_lookup;refine wpListIn_lookup_own_ok_int _ rfl _ _ 97 rfl 3 3 .i64 law8i Tryz.underlying97 Tryz.underlying3 (zero8i _) (w.heap.size+1+1) pre.length D1 rfl hown1 _ _ rfl ki ?_;rw [hy2];intro c hc hwc;clear hc hwc)
     exact HF.out
   | some q =>
     have hy2:Maps.has D1 (.int .i64 y1)=true:=by rw [hy1];unfold oIf;rw [hf];rfl
     have hat1:=(hD1 y1).2 (q:Int) (by unfold oIf;rw [hf];rfl)
     by_cases d4:y0=4
     ·have e4:(y0==4)=true:=by rw [d4];rfl
      have HQ:Hid ((if y0=4 then s2++(s1 y1).toList else s2)=s2++[q]):=by show _=_;rw [hf,if_pos d4];rfl
      have hrow:=hS1.row
      clear hD1 hy1 hf d4
      refine Lib.hid ?_
      gi_wp2_with (first
       | (gi_at_lookup;refine wpListIn_lookup_own_ok_int _ rfl _ _ 97 rfl 3 3 .i64 law8i Tryz.underlying97 Tryz.underlying3 (zero8i _) (w.heap.size+1+1) pre.length D1 rfl hown1 _ _ rfl ki ?_;rw [hy2];intro c hc hwc;obtain rfl:c=(q:Int):=(by have:=hc.symm.trans hat1;simpa using this);clear hc hwc)
       | (gi_at_builtin;refine wpListIn_append_own_at _ rfl _ _ 23 rfl w.heap.size 3 i0 (.int .i64 0) 1 8 Tryz.underlying23 hi hz0 hz1 hz2 rfl (by decide) _ _ _ rfl (hrow.alloc _) ⟨W1.heap.size,0,none⟩ 1 1 [.int .i64 (q:Int)] rfl rfl ?a1 ?a2 ?a3 ?a4 ?a5 ?_))
      case a1=>intro j u hj;match j,hj with
       | 0,hj=>simp at hj;subst hj;simp [Addr.add]
      case a2=>intro u hu;simp at hu;subst hu;rfl
      case a3=>simp;unfold maxLen;omega
      case a4=>simp;omega
      case a5=>simp;omega
      intro v' W2 hown2 hg2 _ hat2
      obtain ⟨g',cap',rfl⟩:=ownsRow_succ hown2
      have hS2:=hS1.app (by omega) hown2 hg2 hat2
      have cv2:=((hS1.bv.alloc (.cells #[.int .i64 (q:Int)] 3)).kept hg2 (fun e=>by have:=hS1.far _ e.symm;omega)).cell
      have gv2:=((hS1.bv.alloc (.cells #[.int .i64 (q:Int)] 3)).kept hg2 (fun e=>by have:=hS1.far _ e.symm;omega)).frozen
      have z2:=hg2.size
      rw [World.size_alloc] at z2
      have KK2:=(KK.trans ((KeepsOthers.alloc W1 (.cells #[.int .i64 (q:Int)] 3)).from _)).trans ((keeps_row (hrow.alloc (.cells #[.int .i64 (q:Int)] 3)) hg2).from _)
      have KP2:=(KP.trans (kpL_bel (by omega) (by omega) (by omega) ((Below.refl W1.heap.size W1).alloc (Nat.le_refl _) (.cells #[.int .i64 (q:Int)] 3)))).trans (kpL_grown (by simp;omega) (by simp;omega) (by simp;omega) hg2 (fun r e=>by have:=hS1.far r e;omega))
      have HF:Hid (KeepsFrom W0.heap.size W (W2.setCell ⟨w.heap.size+1,0,none⟩ (.slice (some ⟨g',0,none⟩) (s2.length+1) cap'))∧KpL w.heap.size (w.heap.size+1+1+1+1) (w.heap.size+1+1+1+1+1+1+1) W (W2.setCell ⟨w.heap.size+1,0,none⟩ (.slice (some ⟨g',0,none⟩) (s2.length+1) cap'))∧ZInv w key (.slice a h.length cap) h (pre++[x]) (W2.setCell ⟨w.heap.size+1,0,none⟩ (.slice (some ⟨g',0,none⟩) (s2.length+1) cap'))):=by
       refine ⟨KK2.trans ((KeepsOthers.setCell _ _ _).from _),KP2.trans (kpL_grown (by omega) (by omega) (by omega) (grownBy_setCell' _ _ _) (fun r e=>by cases e;omega)),.slice (some ⟨g',0,none⟩) (s2.length+1) cap',?_⟩
       rw [LX.out,HV.out,HR.out,HQ.out]
       have hS3:=hS2.keep (m':=pre.length+1) (Nat.le_succ _) rfl
       simp only [List.map_append,List.map_cons,List.map_nil]
       rw [recI_snoc,List.length_append]
       simpa using hS3
      clear hS1 hS2 hown1 hown2 KK KP KK2 KP2 HR HV HQ x1 hrow hat1 hat2
      gi_wp2
      exact HF.out
     ·have e4:(y0==4)=false:=beq_eq_false_iff_ne.2 d4
      have HF:Hid (KeepsFrom W0.heap.size W W1∧KpL w.heap.size (w.heap.size+1+1+1+1) (w.heap.size+1+1+1+1+1+1+1) W W1∧ZInv w key (.slice a h.length cap) h (pre++[x]) W1):=by
       refine ⟨KK,KP,v,?_⟩
       rw [LX.out,HV.out,HR.out,if_neg d4]
       exact hS1.keep (Nat.le_succ _) rfl
      clear hS1 hD1 KK KP HR HV x1 hy1 hf d4
      refine Lib.hid ?_
      gi_wp2_with (gi_at_lookup;refine wpListIn_lookup_own_ok_int _ rfl _ _ 97 rfl 3 3 .i64 law8i Tryz.underlying97 Tryz.underlying3 (zero8i _) (w.heap.size+1+1) pre.length D1 rfl hown1 _ _ rfl ki ?_;rw [hy2];intro c hc hwc;clear hc hwc)
      exact HF.out
 case done =>
  rintro D ys W hD rfl ⟨v,hS⟩ hK
  have HE:Hid ((versF h key (livP h)).2=versL h key):=vers_liv h key
  have c1:=hS.bv.cell
  have HD:Hid (w.heap.size+1+1+1+1+1≤D):=by rw [sW0] at hD;exact hD
  clear sW0 hS0 hD
  gi_wp2
  refine ⟨by simp,.inl ⟨_,_,rfl,run_takeDeferred hK,?_⟩⟩
  refine ⟨_,results_tmp rfl _ _ _,_,rfl,hS.below.trans (belowK_b (w:=w) (Nat.le_refl _) _ D _ _ (by have:=HD.out;omega) hK rfl rfl),?_⟩
  have hr:=hS.row
  rw [HE.out] at hr
  exact ownsRow_putObj hr _ hK rfl
 case stop =>
  rintro D c pre W hD hSp h hK
  exact h.elim
end Go.Proofs.YtiihegldhnlleaaGreat
namespace Go.Proofs.YtiihegldhnlleaaGreat
set_option maxRecDepth 100000
set_option linter.unusedVariables false
theorem outerI_nat (h:List Ev) (k:Nat):outerI h (k:Int)=outerB h k:=by
 unfold outerI
 rw [Int.toNat_natCast,decide_eq_true (by omega)]
 rfl
open Go.Shelf
def lays190_ren:Go.Shelf.Ren:=⟨fun | 190=>102 | 125=>112 | 258=>120 | 128=>133 | 129=>134 | 302=>136 | 303=>137 | 304=>138 | 305=>139 | 306=>140 | 307=>141 | 308=>142 | 309=>143 | 310=>144 | 333=>151 | 329=>146 | 330=>147 | 334=>152 | 335=>153 | 336=>154 | 344=>156 | n=>n,fun | 31=>78 | 9=>9 | 3=>3 | 46=>147 | 0=>0 | 51=>167 | 53=>169 | 4=>4 | 183=>160 | 182=>159 | 131=>98 | 5=>5 | 218=>175 | 222=>179 | 228=>184 | 229=>42 | n=>n,fun | n=>n⟩
theorem lays190:Go.Proofs.Lays.n190 Tryz.prog lays190_ren:={
 mixed:=by kernel_rfl
 f125:=Tryz.func112.trans (congrArg some (by kernel_rfl))
 f128:=Tryz.func133.trans (congrArg some (by kernel_rfl))
 f129:=Tryz.func134.trans (congrArg some (by kernel_rfl))
 f190:=Tryz.func102.trans (congrArg some (by kernel_rfl))
 f258:=Tryz.func120.trans (congrArg some (by kernel_rfl))
 f302:=Tryz.func136.trans (congrArg some (by kernel_rfl))
 f303:=Tryz.func137.trans (congrArg some (by kernel_rfl))
 f304:=Tryz.func138.trans (congrArg some (by kernel_rfl))
 f305:=Tryz.func139.trans (congrArg some (by kernel_rfl))
 f306:=Tryz.func140.trans (congrArg some (by kernel_rfl))
 f307:=Tryz.func141.trans (congrArg some (by kernel_rfl))
 f308:=Tryz.func142.trans (congrArg some (by kernel_rfl))
 f309:=Tryz.func143.trans (congrArg some (by kernel_rfl))
 f310:=Tryz.func144.trans (congrArg some (by kernel_rfl))
 f329:=Tryz.func146.trans (congrArg some (by kernel_rfl))
 f330:=Tryz.func147.trans (congrArg some (by kernel_rfl))
 f333:=Tryz.func151.trans (congrArg some (by kernel_rfl))
 f334:=Tryz.func152.trans (congrArg some (by kernel_rfl))
 f335:=Tryz.func153.trans (congrArg some (by kernel_rfl))
 f336:=Tryz.func154.trans (congrArg some (by kernel_rfl))
 f344:=Tryz.func156.trans (congrArg some (by kernel_rfl))
 t0:=Tryz.underlying0
 a0:=Tryz.isAgg0
 z0:=Tryz.sizeOf0
 v0:=Tryz.zeroValue0
 t3:=Tryz.underlying3
 a3:=Tryz.isAgg3
 z3:=Tryz.sizeOf3
 v3:=Tryz.zeroValue3
 t4:=Tryz.underlying4
 a4:=Tryz.isAgg4
 z4:=Tryz.sizeOf4
 v4:=Tryz.zeroValue4
 t5:=Tryz.underlying5
 a5:=Tryz.isAgg5
 z5:=Tryz.sizeOf5
 v5:=Tryz.zeroValue5
 t9:=Tryz.underlying9
 a9:=Tryz.isAgg9
 z9:=Tryz.sizeOf9
 v9:=Tryz.zeroValue9
 t31:=Tryz.underlying78
 a31:=Tryz.isAgg78
 z31:=Tryz.sizeOf78
 v31:=Tryz.zeroValue78
 t46:=Tryz.underlying147
 a46:=Tryz.isAgg147
 z46:=Tryz.sizeOf147
 v46:=Tryz.zeroValue147
 t51:=Tryz.underlying167
 a51:=Tryz.isAgg167
 z51:=Tryz.sizeOf167
 v51:=Tryz.zeroValue167
 t53:=Tryz.underlying169
 a53:=Tryz.isAgg169
 z53:=Tryz.sizeOf169
 v53:=Tryz.zeroValue169
 t131:=Tryz.underlying98
 a131:=Tryz.isAgg98
 z131:=Tryz.sizeOf98
 v131:=Tryz.zeroValue98
 t182:=Tryz.underlying159
 a182:=Tryz.isAgg159
 z182:=Tryz.sizeOf159
 v182:=Tryz.zeroValue159
 t183:=Tryz.underlying160
 a183:=Tryz.isAgg160
 z183:=Tryz.sizeOf160
 v183:=Tryz.zeroValue160
 t218:=Tryz.underlying175
 a218:=Tryz.isAgg175
 z218:=Tryz.sizeOf175
 v218:=Tryz.zeroValue175
 t222:=Tryz.underlying179
 a222:=Tryz.isAgg179
 z222:=Tryz.sizeOf179
 v222:=Tryz.zeroValue179
 t228:=Tryz.underlying184
 a228:=Tryz.isAgg184
 z228:=Tryz.sizeOf184
 v228:=Tryz.zeroValue184
 t229:=Tryz.underlying42
 a229:=Tryz.isAgg42
 z229:=Tryz.sizeOf42
 v229:=Tryz.zeroValue42 }
theorem psort_any (blk off cap:Nat) (ss:List (List UInt8)) (w:World) (hH:Go.Sort.Holds encStr w blk off ss.toArray) (hblk:blk < w.heap.size) (hsz:ss.length < 4611686018427387904) :
 Calls Tryz.prog 102 #[.slice (some ⟨blk,off,none⟩) ss.length cap] w fun e w' =>
  e=.returned (.tuple #[])∧∃ n os,w'=Go.Sort.grow (Go.Sort.putRow encStr (Go.Sort.ahead w n) blk off (ss.mergeSort fun x y=>decide (x≤y)).toArray) os :=
 Any.slices_Sort_string lays190 blk off cap ss w hH hblk hsz
theorem psort_none (p:Option Addr) (cap:Nat) (w:World):Calls Tryz.prog 102 #[.slice p 0 cap] w fun e w'=>e=.returned (.tuple #[])∧w'=w :=
 Any.slices_Sort_string_none lays190 p cap w
end Go.Proofs.YtiihegldhnlleaaGreat
namespace Go.Proofs.YtiihegldhnlleaaGreat
set_option maxRecDepth 100000
open Go.RowKit
def TxsRow (w:World) (K:List (List UInt8)) (e:Ending) (w':World):Prop:=∃ v,e=.returned v∧Below w.heap.size w w'∧w'.ownsRow w.heap.size 9 1 v K.length (strV K)
set_option linter.unusedVariables false
def nf:List Lf→Int→Option Nat
 | [],_=>none
 | y::L,t=>if y.1=t then some 0 else (nf L t).map (·+ 1)
theorem nf_snoc (y:Lf):∀ (L:List Lf) (t:Int),nf (L++[y]) t=(nf L t).or (if y.1=t then some L.length else none)
 | [],t=>by
   show nf [y] t=_
   rw [nf,nf,nf]
   by_cases h:y.1=t
   ·rw [if_pos h,if_pos h];rfl
   ·rw [if_neg h,if_neg h];rfl
 | z::L,t=>by
   show nf (z::(L++[y])) t=_
   rw [nf,nf,nf_snoc y L t]
   by_cases h:z.1=t
   ·rw [if_pos h,if_pos h];rfl
   ·rw [if_neg h,if_neg h]
    cases nf L t with
    | none=>by_cases h2:y.1=t<;>simp [h2]
    | some m=>simp
theorem nf_some:∀ (L:List Lf) (t:Int) (m:Nat),nf L t=some m→∃ h:m < L.length,L[m].1=t
 | [],t,m,h=>by cases h
 | z::L,t,m,h=>by
   rw [nf] at h
   by_cases hz:z.1=t
   ·rw [if_pos hz] at h
    cases h
    exact ⟨by simp,hz⟩
   ·rw [if_neg hz] at h
    cases hn:nf L t with
    | none=>rw [hn] at h;cases h
    | some q =>
      rw [hn] at h
      cases h
      obtain ⟨h1,h2⟩:=nf_some L t q hn
      exact ⟨by simp;omega,by simpa using h2⟩
theorem nf_none:∀ (L:List Lf) (t:Int),nf L t=none↔∀ y∈L,y.1≠t
 | [],t=>by simp [nf]
 | z::L,t=>by
   rw [nf]
   by_cases hz:z.1=t
   ·rw [if_pos hz];simp [hz]
   ·rw [if_neg hz,Option.map_eq_none_iff,nf_none L t];simp [hz]
theorem nf_set:∀ (L:List Lf) (m:Nat) (y:Lf) (t:Int),(∀ h:m < L.length,L[m].1=y.1)→nf (L.set m y) t=nf L t
 | [],m,y,t,_=>rfl
 | z::L,0,y,t,h=>by
   have:=h (by simp)
   simp only [List.getElem_cons_zero] at this
   rw [List.set_cons_zero,nf,nf,this]
 | z::L,m+1,y,t,h=>by
   rw [List.set_cons_succ,nf,nf,nf_set L m y t (fun hm=>by have:=h (by simpa using hm);simpa using this)]
def newL (h:List Ev) (L:List Lf) (x:Fin h.length):List Lf:=if nf L h[x.val].2.1=none then L++[(h[x.val].2.1,x.val,h.length,false)] else L
def numL8 (h:List Ev) (L:List Lf) (x:Fin h.length):Nat:=(nf L h[x.val].2.1).getD L.length
def endS (L:List Lf) (m i:Nat) (b:Bool):List Lf:=L.set m ((L.getD m (0,0,0,false)).1,(L.getD m (0,0,0,false)).2.1,i,b)
def livS (h:List Ev) (L:List Lf) (x:Fin h.length):List Lf:=if endE h[x.val] then endS (newL h L x) (numL8 h L x) x.val (decide (h[x.val].1=4)) else newL h L x
def lvF (h:List Ev) (pre:List (Fin h.length)):List Lf:=pre.foldl (livS h) []
theorem lvF_snoc (h:List Ev) (pre:List (Fin h.length)) (x:Fin h.length):lvF h (pre++[x])=livS h (lvF h pre) x:=by
 unfold lvF
 rw [List.foldl_append]
 rfl
theorem endS_len (L:List Lf) (m i:Nat) (b:Bool):(endS L m i b).length=L.length:=by unfold endS;rw [List.length_set]
theorem endS_nf (L:List Lf) (m i:Nat) (b:Bool) (t:Int):nf (endS L m i b) t=nf L t:=nf_set L m _ t (fun h=>by rw [List.getD_eq_getElem?_getD,List.getElem?_eq_getElem h];rfl)
theorem new_len (h:List Ev) (L:List Lf) (x:Fin h.length):(newL h L x).length≤L.length+1:=by
 unfold newL
 by_cases hn:nf L h[x.val].2.1=none
 ·rw [if_pos hn];simp
 ·rw [if_neg hn];omega
theorem liv_len (h:List Ev) (L:List Lf) (x:Fin h.length):(livS h L x).length≤L.length+1:=by
 unfold livS
 have:=new_len h L x
 by_cases he:endE h[x.val]
 ·rw [if_pos he,endS_len];exact this
 ·rw [if_neg he];exact this
def fstS (h:List Ev) (k:Nat):List Nat:=(List.range k).filter fun i=>decide (fstL h (ev h i).2.1 i=none)
def lifTo (h:List Ev) (k i:Nat):Lf:=match endL h (ev h i).2.1 k with
 | none=>((ev h i).2.1,i,h.length,false)
 | some e=>((ev h i).2.1,i,e,decide ((ev h e).1=4))
def livTo (h:List Ev) (k:Nat):List Lf:=(fstS h k).map (lifTo h k)
theorem lifTo_fst (h:List Ev) (k i:Nat):(lifTo h k i).1=(ev h i).2.1:=by unfold lifTo;cases endL h (ev h i).2.1 k<;>rfl
theorem endL_grow {h:List Ev} {t:Int} {k e:Nat} (he:endL h t k=some e):endL h t (k+1)=some e:=by
 rw [endL_some] at he ⊢
 exact ⟨by omega,he.2⟩
theorem endL_other {h:List Ev} {t:Int} {k:Nat} (hn:(ev h k).2.1≠t):endL h t (k+1)=endL h t k:=by
 cases he:endL h t k with
 | some e=>exact endL_grow he
 | none=>exact endL_skip h t k he (fun hh=>hn hh.1)
theorem lifTo_other {h:List Ev} {k i:Nat} (hn:(ev h k).2.1≠(ev h i).2.1):lifTo h (k+1) i=lifTo h k i:=by unfold lifTo;rw [endL_other hn]
theorem lifTo_dead {h:List Ev} {k i e:Nat} (he:endL h (ev h i).2.1 k=some e):lifTo h (k+1) i=lifTo h k i:=by unfold lifTo;rw [endL_grow he,he]
theorem fstS_mem {h:List Ev} {k i:Nat}:i∈fstS h k↔i < k∧fstL h (ev h i).2.1 i=none:=by
 unfold fstS
 rw [List.mem_filter,List.mem_range,decide_eq_true_eq]
theorem fstS_one {h:List Ev} {k i j:Nat} (hi:i∈fstS h k) (hj:j∈fstS h k) (he:(ev h i).2.1=(ev h j).2.1):i=j:=by
 obtain ⟨i1,i2⟩:=fstS_mem.1 hi
 obtain ⟨j1,j2⟩:=fstS_mem.1 hj
 rcases Nat.lt_trichotomy i j with hl | hl | hl
 ·exact absurd he ((fstL_none h _ _).1 j2 i hl)
 ·exact hl
 ·exact absurd he.symm ((fstL_none h _ _).1 i2 j hl)
theorem fstS_next (h:List Ev) (k:Nat):fstS h (k+1)=fstS h k++if fstL h (ev h k).2.1 k=none then [k] else []:=by
 unfold fstS
 rw [List.range_succ,List.filter_append]
 congr 1
 by_cases hf:fstL h (ev h k).2.1 k=none
 ·rw [if_pos hf,List.filter_cons_of_pos (by rw [decide_eq_true_eq];exact hf)];rfl
 ·rw [if_neg hf,List.filter_cons_of_neg (by rw [decide_eq_true_eq];exact hf)];rfl
theorem fstS_inj (h:List Ev) (k m j:Nat) (hm:m < (fstS h k).length) (hj:j < (fstS h k).length) (he:(fstS h k)[m]=(fstS h k)[j]):m=j:=by
 have hp:(fstS h k).Pairwise (·< ·):=List.Pairwise.filter _ List.pairwise_lt_range
 rw [List.pairwise_iff_getElem] at hp
 rcases Nat.lt_trichotomy m j with hl | hl | hl
 ·have:=hp m j hm hj hl;omega
 ·exact hl
 ·have:=hp j m hj hm hl;omega
theorem fm_congr {α β:Type} {f g:α→Option β}:∀ {l:List α},(∀ i∈l,f i=g i)→l.filterMap f=l.filterMap g
 | [],_=>rfl
 | a::l,hh=>by
   rw [List.filterMap_cons,List.filterMap_cons,hh a (by simp),fm_congr (fun i hi=>hh i (by simp [hi]))]
theorem livTo_nf (h:List Ev) (k:Nat) (t:Int):nf (livTo h k) t=none↔fstL h t k=none:=by
 rw [nf_none]
 constructor
 ·intro hh
  cases hf:fstL h t k with
  | none=>rfl
  | some f =>
    obtain ⟨f1,f2,f3⟩:=(fstL_some h t k f).1 hf
    have hm:lifTo h k f∈livTo h k:=List.mem_map.2 ⟨f,fstS_mem.2 ⟨f1,(fstL_none h _ _).2 (by rw [f2];exact f3)⟩,rfl⟩
    exact absurd ((lifTo_fst h k f).trans f2) (hh _ hm)
 ·intro hf y hy
  obtain ⟨i,hi,rfl⟩:=List.mem_map.1 hy
  obtain ⟨i1,i2⟩:=fstS_mem.1 hi
  rw [lifTo_fst]
  exact (fstL_none h t k).1 hf i i1
theorem lives_take (h:List Ev):∀ k,k≤h.length→lvF h (livF h ((List.finRange h.length).take k))=livTo h k
 | 0,_=>rfl
 | k+1,hk=>by
   have ih:=lives_take h k (by omega)
   have hk':k < h.length:=by omega
   rw [fin_take hk']
   have hd:=endedIn_take h k (by omega) h[k].2.1
   have ek:=ev_get h k hk'
   cases he:endL h h[k].2.1 k with
   | some e =>
     rw [he] at hd
     rw [livF_snoc_dead h _ ⟨k,hk'⟩ hd,ih]
     obtain ⟨e1,e2,e3⟩:=(endL_some h _ _ _).1 he
     have hf:¬ fstL h (ev h k).2.1 k=none:=by
      intro hf
      rw [ek] at hf
      exact (fstL_none h _ _).1 hf e e1 e2.1
     unfold livTo
     rw [fstS_next,if_neg hf,List.append_nil]
     apply List.map_congr_left
     intro i hi
     by_cases hn:(ev h k).2.1=(ev h i).2.1
     ·exact (lifTo_dead (e:=e) (by rw [← hn,ek];exact he)).symm
     ·exact (lifTo_other hn).symm
   | none =>
     rw [he] at hd
     rw [livF_snoc h _ ⟨k,hk'⟩ hd,lvF_snoc,ih]
     by_cases hf:fstL h (ev h k).2.1 k=none
     ·have hnf:nf (livTo h k) h[k].2.1=none:=(livTo_nf h k _).2 (by rw [← ek];exact hf)
      have hnew:newL h (livTo h k) ⟨k,hk'⟩=livTo h k++[(h[k].2.1,k,h.length,false)]:=by unfold newL;rw [if_pos hnf]
      have hold:(fstS h k).map (lifTo h (k+1))=livTo h k:=by
       apply List.map_congr_left
       intro i hi
       obtain ⟨i1,i2⟩:=fstS_mem.1 hi
       exact lifTo_other (fun hh=>(fstL_none h _ _).1 hf i i1 hh.symm)
      have hnum:numL8 h (livTo h k) ⟨k,hk'⟩=(livTo h k).length:=by unfold numL8;rw [hnf];rfl
      have hR:livTo h (k+1)=livTo h k++[lifTo h (k+1) k]:=by
       show (fstS h (k+1)).map (lifTo h (k+1))=_
       rw [fstS_next,if_pos hf,List.map_append,hold]
       rfl
      rw [hR]
      unfold livS
      rw [hnew,hnum]
      by_cases hn:endE h[k]
      ·have hE:lifTo h (k+1) k=(h[k].2.1,k,k,decide (h[k].1=4)):=by
        unfold lifTo
        rw [ek,(endL_some h _ _ _).2 ⟨by omega,⟨by rw [ek],by rw [ek];exact hn⟩,(endL_none h _ _).1 he⟩]
        simp only [ek]
       rw [if_pos hn,hE]
       unfold endS
       rw [List.set_append_right _ _ (Nat.le_refl _),Nat.sub_self,List.set_cons_zero]
       simp
      ·have hE:lifTo h (k+1) k=(h[k].2.1,k,h.length,false):=by
        unfold lifTo
        rw [ek,endL_skip h _ k he (fun hh=>hn (by rw [← ek];exact hh.2))]
       rw [if_neg hn,hE]
     ·have hnf:nf (livTo h k) h[k].2.1≠none:=fun hh=>hf (by rw [ek];exact (livTo_nf h k _).1 hh)
      have hnew:newL h (livTo h k) ⟨k,hk'⟩=livTo h k:=by unfold newL;rw [if_neg hnf]
      have hR:livTo h (k+1)=(fstS h k).map (lifTo h (k+1)):=by
       show (fstS h (k+1)).map (lifTo h (k+1))=_
       rw [fstS_next,if_neg hf,List.append_nil]
      unfold livS
      rw [hnew,hR]
      by_cases hn:endE h[k]
      ·rw [if_pos hn]
       cases hm:nf (livTo h k) h[k].2.1 with
       | none=>exact absurd hm hnf
       | some m =>
         obtain ⟨m1,m2⟩:=nf_some _ _ _ hm
         have hnum:numL8 h (livTo h k) ⟨k,hk'⟩=m:=by unfold numL8;rw [hm];rfl
         have ml:m < (fstS h k).length:=by unfold livTo at m1;rwa [List.length_map] at m1
         have mg:(livTo h k)[m]=lifTo h k (fstS h k)[m]:=List.getElem_map (lifTo h k)
         rw [mg,lifTo_fst] at m2
         rw [hnum]
         unfold endS
         have hgd:(livTo h k).getD m (0,0,0,false)=lifTo h k (fstS h k)[m]:=by rw [List.getD_eq_getElem?_getD,List.getElem?_eq_getElem m1,mg];rfl
         rw [hgd]
         apply List.ext_getElem
         ·rw [List.length_set,List.length_map];unfold livTo;rw [List.length_map]
         ·intro j j1 j2
          rw [List.getElem_set,List.getElem_map]
          by_cases hj:m=j
          ·subst hj
           rw [if_pos rfl]
           have hE:lifTo h (k+1) (fstS h k)[m]=(h[k].2.1,(fstS h k)[m],k,decide (h[k].1=4)):=by
            unfold lifTo
            rw [m2,(endL_some h _ _ _).2 ⟨by omega,⟨by rw [ek],by rw [ek];exact hn⟩,(endL_none h _ _).1 he⟩]
            simp only [ek]
           rw [hE]
           have hO:lifTo h k (fstS h k)[m]=(h[k].2.1,(fstS h k)[m],h.length,false):=by
            unfold lifTo
            rw [m2,he]
           rw [hO]
          ·rw [if_neg hj]
           have jl:j < (fstS h k).length:=by simpa using j2
           have hg:(livTo h k)[j]'(by unfold livTo;simpa using j2)=lifTo h k (fstS h k)[j]:=List.getElem_map (lifTo h k)
           rw [hg]
           refine (lifTo_other (fun hh=>hj ?_)).symm
           have hsame:(fstS h k)[m]=(fstS h k)[j]:=fstS_one (k:=k) (List.getElem_mem _) (List.getElem_mem _) (by rw [m2,← hh,ek])
           exact fstS_inj h k m j ml jl hsame
      ·rw [if_neg hn]
       unfold livTo
       apply List.map_congr_left
       intro i hi
       by_cases hx:(ev h k).2.1=(ev h i).2.1
       ·unfold lifTo
        rw [← hx,ek,he,endL_skip h _ k he (fun hh=>hn (by rw [← ek];exact hh.2))]
       ·exact (lifTo_other hx).symm
theorem lives_liv (h:List Ev):lvF h (livP h)=livesL h:=by
 have h1:=lives_take h h.length (Nat.le_refl _)
 rw [List.take_of_length_le (by rw [List.length_finRange];exact Nat.le_refl _)] at h1
 show lvF h (livF h _)=_
 rw [h1]
 unfold livTo livesL fstS
 rw [← List.filterMap_eq_filter,List.map_filterMap]
 apply fm_congr
 intro i hi
 have hil:=List.mem_range.1 hi
 simp only [Option.guard]
 by_cases hf:fstL h (ev h i).2.1 i=none
 ·have hfn:fstL h (ev h i).2.1 h.length=some i:=(fstL_some h _ _ _).2 ⟨hil,rfl,(fstL_none h _ _).1 hf⟩
  rw [if_pos hf]
  unfold findL
  rw [hfn]
  simp only [hf]
  unfold lifTo
  cases he:endL h (ev h i).2.1 h.length<;>simp [he]
 ·rw [if_neg hf]
  simp [hf]
theorem lvF_len (h:List Ev):∀ (pre:List (Fin h.length)) (L:List Lf),(pre.foldl (livS h) L).length≤L.length+pre.length
 | [],L=>Nat.le_refl _
 | x::pre,L=>by
   have h1:=lvF_len h pre (livS h L x)
   have h2:=liv_len h L x
   rw [List.foldl_cons,List.length_cons]
   omega
theorem lvF_few (h:List Ev) (pre:List (Fin h.length)):(lvF h pre).length≤pre.length:=by have:=lvF_len h pre [];simpa [lvF] using this
open Go.Shelf
def lays189I_ren:Go.Shelf.Ren:=⟨fun | 189=>82 | 125=>112 | 257=>111 | 128=>133 | 129=>134 | 294=>124 | 295=>125 | 296=>126 | 297=>127 | 298=>128 | 299=>129 | 216=>130 | 300=>131 | 301=>132 | 328=>145 | 329=>146 | 330=>147 | 331=>148 | 332=>149 | 215=>150 | 343=>155 | n=>n,fun | 28=>23 | 9=>9 | 3=>3 | 46=>147 | 0=>0 | 51=>167 | 53=>169 | 4=>4 | 183=>160 | 182=>159 | 131=>98 | 5=>5 | 218=>175 | 222=>179 | 228=>184 | 229=>42 | n=>n,fun | n=>n⟩
theorem lays189I:Go.Proofs.Lays.n189 Tryz.prog lays189I_ren:={
 mixed:=by kernel_rfl
 f125:=Tryz.func112.trans (congrArg some (by kernel_rfl))
 f128:=Tryz.func133.trans (congrArg some (by kernel_rfl))
 f129:=Tryz.func134.trans (congrArg some (by kernel_rfl))
 f189:=Tryz.func82.trans (congrArg some (by kernel_rfl))
 f257:=Tryz.func111.trans (congrArg some (by kernel_rfl))
 f294:=Tryz.func124.trans (congrArg some (by kernel_rfl))
 f295:=Tryz.func125.trans (congrArg some (by kernel_rfl))
 f296:=Tryz.func126.trans (congrArg some (by kernel_rfl))
 f297:=Tryz.func127.trans (congrArg some (by kernel_rfl))
 f298:=Tryz.func128.trans (congrArg some (by kernel_rfl))
 f299:=Tryz.func129.trans (congrArg some (by kernel_rfl))
 f216:=Tryz.func130.trans (congrArg some (by kernel_rfl))
 f300:=Tryz.func131.trans (congrArg some (by kernel_rfl))
 f301:=Tryz.func132.trans (congrArg some (by kernel_rfl))
 f329:=Tryz.func146.trans (congrArg some (by kernel_rfl))
 f330:=Tryz.func147.trans (congrArg some (by kernel_rfl))
 f328:=Tryz.func145.trans (congrArg some (by kernel_rfl))
 f331:=Tryz.func148.trans (congrArg some (by kernel_rfl))
 f332:=Tryz.func149.trans (congrArg some (by kernel_rfl))
 f215:=Tryz.func150.trans (congrArg some (by kernel_rfl))
 f343:=Tryz.func155.trans (congrArg some (by kernel_rfl))
 t0:=Tryz.underlying0
 a0:=Tryz.isAgg0
 z0:=Tryz.sizeOf0
 v0:=Tryz.zeroValue0
 t3:=Tryz.underlying3
 a3:=Tryz.isAgg3
 z3:=Tryz.sizeOf3
 v3:=Tryz.zeroValue3
 t4:=Tryz.underlying4
 a4:=Tryz.isAgg4
 z4:=Tryz.sizeOf4
 v4:=Tryz.zeroValue4
 t5:=Tryz.underlying5
 a5:=Tryz.isAgg5
 z5:=Tryz.sizeOf5
 v5:=Tryz.zeroValue5
 t9:=Tryz.underlying9
 a9:=Tryz.isAgg9
 z9:=Tryz.sizeOf9
 v9:=Tryz.zeroValue9
 t28:=Tryz.underlying23
 a28:=Tryz.isAgg23
 z28:=Tryz.sizeOf23
 v28:=Tryz.zeroValue23
 t46:=Tryz.underlying147
 a46:=Tryz.isAgg147
 z46:=Tryz.sizeOf147
 v46:=Tryz.zeroValue147
 t51:=Tryz.underlying167
 a51:=Tryz.isAgg167
 z51:=Tryz.sizeOf167
 v51:=Tryz.zeroValue167
 t53:=Tryz.underlying169
 a53:=Tryz.isAgg169
 z53:=Tryz.sizeOf169
 v53:=Tryz.zeroValue169
 t131:=Tryz.underlying98
 a131:=Tryz.isAgg98
 z131:=Tryz.sizeOf98
 v131:=Tryz.zeroValue98
 t182:=Tryz.underlying159
 a182:=Tryz.isAgg159
 z182:=Tryz.sizeOf159
 v182:=Tryz.zeroValue159
 t183:=Tryz.underlying160
 a183:=Tryz.isAgg160
 z183:=Tryz.sizeOf160
 v183:=Tryz.zeroValue160
 t218:=Tryz.underlying175
 a218:=Tryz.isAgg175
 z218:=Tryz.sizeOf175
 v218:=Tryz.zeroValue175
 t222:=Tryz.underlying179
 a222:=Tryz.isAgg179
 z222:=Tryz.sizeOf179
 v222:=Tryz.zeroValue179
 t228:=Tryz.underlying184
 a228:=Tryz.isAgg184
 z228:=Tryz.sizeOf184
 v228:=Tryz.zeroValue184
 t229:=Tryz.underlying42
 a229:=Tryz.isAgg42
 z229:=Tryz.sizeOf42
 v229:=Tryz.zeroValue42 }
theorem psortI_any (blk off cap:Nat) (ss:List Int) (w:World) (hH:Go.Sort.Holds (Value.int .i64) w blk off ss.toArray) (hblk:blk < w.heap.size) (hsz:ss.length < 4611686018427387904) :
 Calls Tryz.prog 82 #[.slice (some ⟨blk,off,none⟩) ss.length cap] w fun e w' =>
  e=.returned (.tuple #[])∧∃ n os,w'=Go.Sort.grow (Go.Sort.putRow (Value.int .i64) (Go.Sort.ahead w n) blk off (ss.mergeSort fun x y=>decide (x≤y)).toArray) os :=
 Any.slices_Sort_int lays189I blk off cap ss w hH hblk hsz
theorem psortI_none (p:Option Addr) (cap:Nat) (w:World):Calls Tryz.prog 82 #[.slice p 0 cap] w fun e w'=>e=.returned (.tuple #[])∧w'=w :=
 Any.slices_Sort_int_none lays189I p cap w
end Go.Proofs.YtiihegldhnlleaaGreat
namespace Go.Proofs.YtiihegldhnlleaaGreat
set_option maxRecDepth 100000
open Go.RowKit Go.Maps
set_option linter.unusedVariables false
attribute [local go_sem] ba_size
def StP (W:World) (L':List SVt) (L:List Stp):Prop:=L'.length=L.length∧∀ (i:Nat) x s,L'[i]?=some x→L[i]?=some s→x.1=s.1∧x.2.1=s.2.1∧(∃ B,W.ownsRow B 54 5 x.2.2 s.2.2.length (recV edV s.2.2))∧s.2.2.length≤2
theorem StP.nil (W:World):StP W [] []:=⟨rfl,fun i x s h=>by simp at h⟩
theorem StP.of {W:World} {L':List SVt} {L:List Stp} (h:StP W L' L):StOf W L' L :=
 ⟨h.1,fun i x s hx hs=>by obtain ⟨a,b,⟨B,c⟩,d⟩:=h.2 i x s hx hs;exact ⟨a,b,IsRec.own edV_len (by omega) c (by omega)⟩⟩
theorem StP.below {W W':World} {L':List SVt} {L:List Stp} (h:StP W L' L) (hb:Below W.heap.size W W'):StP W' L' L :=
 ⟨h.1,fun i x s hx hs=>by obtain ⟨a,b,⟨B,c⟩,d⟩:=h.2 i x s hx hs;exact ⟨a,b,⟨B,owns_below c hb⟩,d⟩⟩
theorem owns_kept10 {W W':World} {B e k n B' e' k' n':Nat} {v r:Value} {xs ys:List Value} (h:W.ownsRow B e k v n xs) (hr:W.ownsRow B' e' k' r n' ys) (hte:e≠e') (hg:W.grownBy W' r.ownBlock):W'.ownsRow B e k v n xs:=by
 refine h.kept hg ?_
 rcases h.2 with ⟨rfl,_⟩ | ⟨g,cap,cur,rfl,_,hgb,_⟩
 ·exact .inl rfl
 ·exact .inr (fun e=>block_not_row hgb hte hr e)
theorem StP.push {W W':World} {L':List SVt} {L:List Stp} {B B' n:Nat} {r v:Value} {xs:List Value} (h:StP W L' L) (hrow:W.ownsRow B 69 3 r n xs) (a b:Int) (es:List Ed) (h2:es.length≤2) (hv:W.ownsRow B' 54 5 v es.length (recV edV es)) (hg:W.grownBy W' r.ownBlock):StP W' (L'++[(a,b,v)]) (L++[(a,b,es)]):=by
 refine ⟨by simp [h.1],fun i x s hx hs=>?_⟩
 rcases Nat.lt_or_ge i L'.length with hi | hi
 ·rw [List.getElem?_append_left hi] at hx
  rw [List.getElem?_append_left (by rw [← h.1];exact hi)] at hs
  obtain ⟨p,q,⟨B,c⟩,d⟩:=h.2 i x s hx hs
  exact ⟨p,q,⟨B,owns_kept10 c hrow (by decide) hg⟩,d⟩
 ·rw [List.getElem?_append_right hi] at hx
  rw [List.getElem?_append_right (by rw [← h.1];exact hi)] at hs
  rw [h.1] at hx
  rcases Nat.eq_zero_or_pos (i - L.length) with h0 | h0
  ·rw [h0] at hx hs
   simp only [List.getElem?_cons_zero,Option.some.injEq] at hx hs
   subst hx hs
   exact ⟨rfl,rfl,⟨B',owns_kept10 hv hrow (by decide) hg⟩,h2⟩
  ·rw [List.getElem?_eq_none (by simp;omega)] at hx
   cases hx
set_option maxHeartbeats 4000000 in
theorem pserial_any (l:List Ed) (v:Value) (w:World) (hT:IsEds w v l) (hle:l.length≤1000) :
 Calls Tryz.prog 69 #[v] w fun e w'=>StRow 69 w (stepsL 1 l) e w':=by
 obtain ⟨a,cap,rfl,h1,h2,h3,HC⟩:=hT.reads
 obtain ⟨n,hn⟩:∃ n,l.length=n:=⟨_,rfl⟩
 have HN:Hid (l.length=n):=hn
 rw [hn] at h1 h3 hle ⊢
 clear hT hn
 go_enter Tryz.func69,Tryz.ntmps69
 go_wp2_with fail
 go_loopw [3,8] (fun r i wr=>∃ (k c:Nat) (L':List SVt),k≤n∧c≤k∧i=.int .i64 k∧Hid (L'.length=c)∧Hid (StP wr L' (sTo 1 l k))∧Below w.heap.size w wr∧wr.ownsRow w.heap.size 69 3 r c (recV stV L')) (fun _ i _=>n - (intOf i).toNat)
 case atStart=>exact ⟨0,0,[],Nat.zero_le _,by omega,rfl,rfl,StP.nil _,Below.refl _ _,World.ownsRow_nil _ _ _ _⟩
 case round =>
  obtain ⟨k,c,L',hk,hc,rfl,HL,HS,hbw,hrow⟩:=hrel
  by_cases hlt:k < n
  ·have hk1:Hid (k < l.length):=by show k < _;rw [HN.out];exact hlt
   have j0:(k:Int) < (n:Int):=by omega
   obtain ⟨bb,off,rfl,HQ⟩:=HC.out (by have:=hk1.out;omega)
   obtain ⟨⟨e0,e1,e2,e3,e4⟩,he⟩:∃ x,l[k]'hk1.out=x:=⟨_,rfl⟩
   have HE:Hid (l[k]'hk1.out=(e0,e1,e2,e3,e4)):=he
   have HNx:Hid (sTo 1 l (k+1)=sTo 1 l k++stepOf 1 l (e0,e1,e2,e3,e4)):=by show _=_;rw [sTo_next 1 l k hk1.out,he]
   obtain ⟨x0,x1,x2,x3,x4⟩:=HQ.out k hk1.out _ hbw
   rw [he] at x0 x1 x2 x3 x4
   simp only at x0 x1 x2 x3 x4
   clear he
   have XE:=SBox.new wr 54 #[.int .i64 e0,.int .i64 e1,.int .i64 e2,.int .i64 e3,.int .i64 e4]
   have BE:=hbw.alloc hbw.size (.cells #[.int .i64 e0,.int .i64 e1,.int .i64 e2,.int .i64 e3,.int .i64 e4] 54)
   have hrowE:=hrow.alloc (.cells #[.int .i64 e0,.int .i64 e1,.int .i64 e2,.int .i64 e3,.int .i64 e4] 54)
   have y0:=XE.cell 0 _ rfl
   have y1:=XE.cell 1 _ rfl
   have y2:=XE.cell 2 _ rfl
   have y3:=XE.cell 3 _ rfl
   have y4:=XE.cell 4 _ rfl
   have HSE:Hid (StP (wr.alloc (.cells #[.int .i64 e0,.int .i64 e1,.int .i64 e2,.int .i64 e3,.int .i64 e4] 54)) L' (sTo 1 l k)):=HS.out.below ((Below.refl _ _).alloc (Nat.le_refl _) _)
   obtain ⟨_,_,rfl⟩:=own_shape hrow
   have HO:Hid (stepOf 1 l (e0,e1,e2,e3,e4)=[(e1,e2,[(e0,e1,e2,e3,e4)])]):=stepOf_1 l _
   go_wp2_with fail
   refine (palone_any e0 e1 e2 e3 e4 _).mono ?_
   rintro e1' w1 ⟨ad,c1,rfl,b1,ho1⟩
   have hs1:=HSE.out.below b1
   have hr1:=owns_below hrowE b1
   have B1:=bel_trans BE b1
   go_wp2_with fail
   refine (pbhS_any _ c _ e1 e2 ad 1 c1 w.heap.size _ hr1 (by have:=B1.size;omega) (by omega)).mono ?_
   rintro e2' w3 ⟨r3,rfl,hown3,hg3,hat3⟩
   have hs3:=hs1.push hr1 (e1) (e2) [(e0,e1,e2,e3,e4)] (by simp) ho1 hg3
   have B3:Below w.heap.size w w3:=B1.grown hg3 (by have:=B1.size;omega) (fun j hj=>own_far hr1 j hj)
   go_wp2_with fail
   refine ⟨⟨k+1,c+1,L'++[(e1,e2,.slice ad 1 c1)],by omega,by omega,by first | go_num | simp,by show _=_;rw [List.length_append,HL.out];rfl,by show StP _ _ _;rw [HNx.out,HO.out];exact hs3,B3,by rw [recS_snoc];exact hown3⟩,by simp [intOf];omega⟩
  ·obtain rfl:k=n:=by omega
   have jq:¬ (k:Int) < (k:Int):=by omega
   go_wp2_with fail
   go_ret
   have e:sTo 1 l k=stepsL 1 l:=by rw [← HN.out,sTo_all]
   have hs:=HS.out
   rw [e] at hs
   refine ⟨_,L',rfl,hbw,?_,hs.of⟩
   rw [HL.out]
   exact hrow
set_option maxHeartbeats 4000000 in
theorem psnap_any (l:List Ed) (v:Value) (w:World) (hT:IsEds w v l) (hle:l.length≤1000) :
 Calls Tryz.prog 70 #[v] w fun e w'=>StRow 69 w (stepsL 2 l) e w':=by
 obtain ⟨a,cap,rfl,h1,h2,h3,HC⟩:=hT.reads
 obtain ⟨n,hn⟩:∃ n,l.length=n:=⟨_,rfl⟩
 have HN:Hid (l.length=n):=hn
 rw [hn] at h1 h3 hle ⊢
 clear hT hn
 go_enter Tryz.func70,Tryz.ntmps70
 go_wp2_with fail
 go_loopw [3,10] (fun r i wr=>∃ (k c:Nat) (L':List SVt),k≤n∧c≤k*1001∧i=.int .i64 k∧Hid (L'.length=c)∧Hid (StP wr L' (sTo 2 l k))∧Below w.heap.size w wr∧wr.ownsRow w.heap.size 69 3 r c (recV stV L')) (fun _ i _=>n - (intOf i).toNat)
 case atStart=>exact ⟨0,0,[],Nat.zero_le _,by omega,rfl,rfl,StP.nil _,Below.refl _ _,World.ownsRow_nil _ _ _ _⟩
 case round =>
  obtain ⟨wA,rfl⟩:∃ wA,wA=wr:=⟨_,rfl⟩
  obtain ⟨k,c,L',hk,hc,rfl,HL,HS,hbw,hrow⟩:=hrel
  by_cases hlt:k < n
  ·have hk1:Hid (k < l.length):=by show k < _;rw [HN.out];exact hlt
   have j0:(k:Int) < (n:Int):=by omega
   obtain ⟨bb,off,rfl,HQ⟩:=HC.out (by have:=hk1.out;omega)
   obtain ⟨⟨e0,e1,e2,e3,e4⟩,he⟩:∃ x,l[k]'hk1.out=x:=⟨_,rfl⟩
   have HE:Hid (l[k]'hk1.out=(e0,e1,e2,e3,e4)):=he
   have HNx:Hid (sTo 2 l (k+1)=sTo 2 l k++stepOf 2 l (e0,e1,e2,e3,e4)):=by show _=_;rw [sTo_next 2 l k hk1.out,he]
   obtain ⟨x0,x1,x2,x3,x4⟩:=HQ.out k hk1.out _ hbw
   rw [he] at x0 x1 x2 x3 x4
   simp only at x0 x1 x2 x3 x4
   clear he
   have XE:=SBox.new wA 54 #[.int .i64 e0,.int .i64 e1,.int .i64 e2,.int .i64 e3,.int .i64 e4]
   have BE:=hbw.alloc hbw.size (.cells #[.int .i64 e0,.int .i64 e1,.int .i64 e2,.int .i64 e3,.int .i64 e4] 54)
   have hrowE:=hrow.alloc (.cells #[.int .i64 e0,.int .i64 e1,.int .i64 e2,.int .i64 e3,.int .i64 e4] 54)
   have y0:=XE.cell 0 _ rfl
   have y1:=XE.cell 1 _ rfl
   have y2:=XE.cell 2 _ rfl
   have y3:=XE.cell 3 _ rfl
   have y4:=XE.cell 4 _ rfl
   have HSE:Hid (StP (wA.alloc (.cells #[.int .i64 e0,.int .i64 e1,.int .i64 e2,.int .i64 e3,.int .i64 e4] 54)) L' (sTo 2 l k)):=HS.out.below ((Below.refl _ _).alloc (Nat.le_refl _) _)
   obtain ⟨_,_,rfl⟩:=own_shape hrow
   by_cases d3:e0=3
   ·have HO:Hid (stepOf 2 l (e0,e1,e2,e3,e4)=[]):=stepOf_23 l _ d3
    have z0:(e0==3)=true:=by rw [d3];rfl
    clear d3
    go_wp2_with fail
    refine ⟨⟨k+1,c,L',by omega,by omega,by first | go_num | simp,HL,by show StP _ _ _;rw [HNx.out,HO.out,List.append_nil];exact HSE.out,BE,hrowE⟩,by simp [intOf];omega⟩
   ·have z0:(e0==3)=false:=beq_eq_false_iff_ne.2 d3
    have HO:Hid (stepOf 2 l (e0,e1,e2,e3,e4)=(e1,e2,[(e0,e1,e2,e3,e4)])::sIn l (e0,e1,e2,e3,e4) n):=by show _=_;rw [stepOf_2 l _ d3,← HN.out,sIn_all];rfl
    clear d3
    go_wp2_with fail
    refine (palone_any e0 e1 e2 e3 e4 _).mono ?_
    rintro e1' w1 ⟨ad,c1,rfl,b1,ho1⟩
    have hs1:=HSE.out.below b1
    have hr1:=owns_below hrowE b1
    have B1:=bel_trans BE b1
    go_wp2_with fail
    refine (pbhS_any _ c _ e1 e2 ad 1 c1 w.heap.size _ hr1 (by have:=B1.size;omega) (by omega)).mono ?_
    rintro e2' w3 ⟨r3,rfl,hown3,hg3,hat3⟩
    have hs3:=hs1.push hr1 (e1) (e2) [(e0,e1,e2,e3,e4)] (by simp) ho1 hg3
    have B3:Below w.heap.size w w3:=B1.grown hg3 (by have:=B1.size;omega) (fun j hj=>own_far hr1 j hj)
    have X3:SBox w3 wA.heap.size 54 #[.int .i64 e0,.int .i64 e1,.int .i64 e2,.int .i64 e3,.int .i64 e4]:=(hg3.block _ (XE.below b1).lt (block_not_row (XE.below b1) (by decide) hr1)).trans (XE.below b1)
    have hL3:Hid ((L'++[((e1,e2,.slice ad 1 c1):SVt)]).length=c+1):=by show _=_;rw [List.length_append,HL.out];rfl
    have hs4:StP w3 (L'++[(e1,e2,.slice ad 1 c1)]) (sTo 2 l k++((e1,e2,[(e0,e1,e2,e3,e4)])::sIn l (e0,e1,e2,e3,e4) 0)):=hs3
    have hown4:w3.ownsRow w.heap.size 69 3 r3 (c+1) (recV stV (L'++[(e1,e2,.slice ad 1 c1)])):=by rw [recS_snoc];exact hown3
    have ne3:∀ g,r3.ownBlock=some g→g≠wA.heap.size:=fun g e e2=>by subst e2;exact block_not_row X3 (by decide) hown3 e.symm
    obtain ⟨M0,hM0⟩:∃ M0,L'++[((e1,e2,.slice ad 1 c1):SVt)]=M0:=⟨_,rfl⟩
    rw [hM0] at hL3 hs4 hown4
    clear hs3 hown3 hg3 hM0 hat3 hs1 hr1 B1 ho1 b1 hrow hrowE HS HSE x0 x1 x2 x3 x4 y0 y1 y2 y3 y4 BE XE
    go_wp2_with fail
    go_loopw [3,23] (fun r i wq=>∃ (q c':Nat) (M':List SVt),q≤n∧c'≤k*1001+1+q∧i=.int .i64 q∧Hid (M'.length=c')∧Hid (StP wq M' (sTo 2 l k++((e1,e2,[(e0,e1,e2,e3,e4)])::sIn l (e0,e1,e2,e3,e4) q)))∧Below w.heap.size w wq∧SBox wq wA.heap.size 54 #[.int .i64 e0,.int .i64 e1,.int .i64 e2,.int .i64 e3,.int .i64 e4]∧(∀ g,r.ownBlock=some g→g≠wA.heap.size)∧wq.ownsRow w.heap.size 69 3 r c' (recV stV M')) (fun _ i _=>n - (intOf i).toNat)
    case atStart=>exact ⟨0,c+1,M0,Nat.zero_le _,by omega,rfl,hL3,hs4,B3,X3,ne3,hown4⟩
    case round =>
     obtain ⟨q,c',M',hq,hc',rfl,HLq,HSq,hbq,XQ,neq,hrowq⟩:=hrel
     clear X3 hs4 hown4 B3 ne3 hL3
     by_cases hlq:q < n
     ·have hq1:Hid (q < l.length):=by show q < _;rw [HN.out];exact hlq
      have jq:(q:Int) < (n:Int):=by omega
      obtain ⟨⟨g0,g1,g2,g3,g4⟩,hg⟩:∃ x,l[q]'hq1.out=x:=⟨_,rfl⟩
      have HG:Hid (l[q]'hq1.out=(g0,g1,g2,g3,g4)):=hg
      obtain ⟨z0,z1,z2,z3,z4⟩:=HQ.out q hq1.out _ hbq
      rw [hg] at z0 z1 z2 z3 z4
      simp only at z0 z1 z2 z3 z4
      clear hg
      have XG:=SBox.new wr 54 #[.int .i64 g0,.int .i64 g1,.int .i64 g2,.int .i64 g3,.int .i64 g4]
      have XR:=XQ.alloc (.cells #[.int .i64 g0,.int .i64 g1,.int .i64 g2,.int .i64 g3,.int .i64 g4] 54)
      have BG:=hbq.alloc hbq.size (.cells #[.int .i64 g0,.int .i64 g1,.int .i64 g2,.int .i64 g3,.int .i64 g4] 54)
      have hrowG:=hrowq.alloc (.cells #[.int .i64 g0,.int .i64 g1,.int .i64 g2,.int .i64 g3,.int .i64 g4] 54)
      have u0:=XG.cell 0 _ rfl
      have u1:=XG.cell 1 _ rfl
      have u2:=XG.cell 2 _ rfl
      have u3:=XG.cell 3 _ rfl
      have u4:=XG.cell 4 _ rfl
      have y0:=XR.cell 0 _ rfl
      have y1:=XR.cell 1 _ rfl
      have y2:=XR.cell 2 _ rfl
      have y3:=XR.cell 3 _ rfl
      have y4:=XR.cell 4 _ rfl
      have HSG:Hid (StP (wr.alloc (.cells #[.int .i64 g0,.int .i64 g1,.int .i64 g2,.int .i64 g3,.int .i64 g4] 54)) M' (sTo 2 l k++((e1,e2,[(e0,e1,e2,e3,e4)])::sIn l (e0,e1,e2,e3,e4) q))):=HSq.out.below ((Below.refl _ _).alloc (Nat.le_refl _) _)
      obtain ⟨_,_,rfl⟩:=own_shape hrowq
      by_cases hm:g0=3∧g1=e2
      ·have m0:(g0==3)=true:=by rw [hm.1];rfl
       have m1:(g1==e2)=true:=by rw [hm.2];exact beq_self_eq_true _
       have HY:Hid (sIn l (e0,e1,e2,e3,e4) (q+1)=sIn l (e0,e1,e2,e3,e4) q++[(e1,g2,[(e0,e1,e2,e3,e4),(g0,g1,g2,g3,g4)])]):=by show _=_;rw [sIn_yes l _ q hq1.out (by rw [HG.out];exact hm),HG.out];rfl
       clear hm
       go_wp2_with fail
       refine (pjoined_any e0 e1 e2 e3 e4 g0 g1 g2 g3 g4 _).mono ?_
       rintro e1' w5 ⟨ad5,c5,rfl,b5,ho5⟩
       have hs5:=HSG.out.below b5
       have hr5:=owns_below hrowG b5
       have B5:=bel_trans BG b5
       go_wp2_with fail
       refine (pbhS_any _ c' _ e1 g2 ad5 2 c5 w.heap.size _ hr5 (by have:=B5.size;omega) (by omega)).mono ?_
       rintro e2' w6 ⟨r6,rfl,hown6,hg6,hat6⟩
       have hs6:=hs5.push hr5 (e1) (g2) [(e0,e1,e2,e3,e4),(g0,g1,g2,g3,g4)] (by simp) ho5 hg6
       have B6:Below w.heap.size w w6:=B5.grown hg6 (by have:=B5.size;omega) (fun j hj=>own_far hr5 j hj)
       have X6:SBox w6 wA.heap.size 54 #[.int .i64 e0,.int .i64 e1,.int .i64 e2,.int .i64 e3,.int .i64 e4]:=(hg6.block _ (XR.below b5).lt (block_not_row (XR.below b5) (by decide) hr5)).trans (XR.below b5)
       go_wp2_with fail
       refine ⟨⟨q+1,c'+1,M'++[(e1,g2,.slice ad5 2 c5)],by omega,by omega,by first | go_num | simp,by show _=_;rw [List.length_append,HLq.out];rfl,by show StP _ _ _;rw [HY.out,← List.cons_append,← List.append_assoc];exact hs6,B6,X6,fun g e e2=>by subst e2;exact block_not_row X6 (by decide) hown6 e.symm,by rw [recS_snoc];exact hown6⟩,by simp [intOf];omega⟩
      ·have HY:Hid (sIn l (e0,e1,e2,e3,e4) (q+1)=sIn l (e0,e1,e2,e3,e4) q):=sIn_no l _ q hq1.out (by rw [HG.out];exact hm)
       have HF:Hid (StP (wr.alloc (.cells #[.int .i64 g0,.int .i64 g1,.int .i64 g2,.int .i64 g3,.int .i64 g4] 54)) M' (sTo 2 l k++((e1,e2,[(e0,e1,e2,e3,e4)])::sIn l (e0,e1,e2,e3,e4) (q+1)))):=by show StP _ _ _;rw [HY.out];exact HSG.out
       by_cases m3:g0=3
       ·have m0:(g0==3)=true:=by rw [m3];rfl
        have m1:(g1==e2)=false:=beq_eq_false_iff_ne.2 (fun hh=>hm ⟨m3,hh⟩)
        clear hm m3
        go_wp2_with fail
        refine ⟨⟨q+1,c',M',by omega,by omega,by first | go_num | simp,HLq,HF,BG,XR,neq,hrowG⟩,by simp [intOf];omega⟩
       ·have m0:(g0==3)=false:=beq_eq_false_iff_ne.2 m3
        clear hm m3
        go_wp2_with fail
        refine ⟨⟨q+1,c',M',by omega,by omega,by first | go_num | simp,HLq,HF,BG,XR,neq,hrowG⟩,by simp [intOf];omega⟩
     ·obtain rfl:q=n:=by omega
      have jq:¬ (q:Int) < (q:Int):=by omega
      go_wp2_with fail
      refine ⟨⟨k+1,c',M',by omega,by omega,by first | go_num | simp,HLq,by show StP _ _ _;rw [HNx.out,HO.out];exact HSq.out,hbq,hrowq⟩,by simp [intOf];omega⟩
  ·obtain rfl:k=n:=by omega
   have jq:¬ (k:Int) < (k:Int):=by omega
   go_wp2_with fail
   go_ret
   have e:sTo 2 l k=stepsL 2 l:=by rw [← HN.out,sTo_all]
   have hs:=HS.out
   rw [e] at hs
   refine ⟨_,L',rfl,hbw,?_,hs.of⟩
   rw [HL.out]
   exact hrow
set_option maxHeartbeats 1000000 in
theorem psteps10_any (level:Int) (l:List Ed) (v:Value) (w:World) (hT:IsEds w v l) (hle:l.length≤1000) :
 Calls Tryz.prog 48 #[.int .i64 level,v] w fun e w'=>StRow 69 w (stepsL level l) e w':=by
 have C1:=pserial_any l v w hT hle
 have C2:=psnap_any l v w hT hle
 obtain ⟨a,cap,rfl,_⟩:=hT.reads
 by_cases h1:level=1
 ·subst h1
  go_enter Tryz.func48,Tryz.ntmps48
  go_wp2_with fail
  refine C1.mono ?_
  rintro e w1 ⟨v,L',rfl,b1,h2,h3⟩
  go_wp2_with fail
  go_ret
  exact ⟨v,L',rfl,b1,h2,h3⟩
 ·have k1:(level==1)=false:=beq_eq_false_iff_ne.2 h1
  by_cases h2:level=2
  ·subst h2
   go_enter Tryz.func48,Tryz.ntmps48
   go_wp2_with fail
   refine C2.mono ?_
   rintro e w1 ⟨v,L',rfl,b1,h2,h3⟩
   go_wp2_with fail
   go_ret
   exact ⟨v,L',rfl,b1,h2,h3⟩
  ·have k2:(level==2)=false:=beq_eq_false_iff_ne.2 h2
   have e:stepsL level l=[]:=by
    unfold stepsL
    rw [List.flatMap_eq_nil_iff]
    exact fun x _=>stepOf_o level l x h1 h2
   rw [e]
   clear h1 h2
   go_enter Tryz.func48,Tryz.ntmps48
   go_wp2_with fail
   go_ret
   exact ⟨_,[],rfl,Below.refl _ _,World.ownsRow_nil _ _ _ _,(StP.nil _).of⟩
end Go.Proofs.YtiihegldhnlleaaGreat
namespace Go.Proofs.YtiihegldhnlleaaGreat
set_option maxRecDepth 100000
set_option linter.unusedVariables false
def NumsOf (nodes N:List Int):Prop:=N.Pairwise (·< ·)∧(∀ x,x∈N↔x∈nodes)∧N.length≤nodes.length
theorem NumsOf.nodup {nodes N:List Int} (h:NumsOf nodes N):N.Nodup:=by
 rw [List.nodup_iff_pairwise_ne]
 exact h.1.imp (fun hab he=>by omega)
theorem keeps_iff (L:List Int) (j:Nat) (hj:j < L.length):Lib.keeps L.toArray j=true↔(j=0∨L[j]≠L[j - 1]'(by omega)):=by
 unfold Lib.keeps
 rw [decide_eq_true_eq]
 have e1:L.toArray[j]! = L[j]:=by simp [getElem!_pos,hj]
 have e2:L.toArray[j - 1]! = L[j - 1]'(by omega):=by
  have:j - 1 < L.length:=by omega
  simp [getElem!_pos,this]
 rw [e1,e2]
theorem comp_get (L:List Int) (j:Nat) (hj:j < L.length):L.toArray[j]! = L[j]:=by simp [getElem!_pos,hj]
theorem compact_sorted (L:List Int) (hs:L.Pairwise (·≤ ·)):(Lib.compact L).Pairwise (·< ·)∧∀ x,x∈Lib.compact L↔x∈L:=by
 unfold Lib.compact Lib.compactUpTo
 have hp:=List.pairwise_iff_getElem.1 hs
 refine ⟨?_,fun x=>?_⟩
 ·rw [List.pairwise_map]
  have hr:((List.range L.length).filter (Lib.keeps L.toArray)).Pairwise (·< ·):=List.Pairwise.filter _ List.pairwise_lt_range
  refine List.Pairwise.imp_of_mem ?_ hr
  intro i j hi hj hij
  obtain ⟨hi1,_⟩:=List.mem_filter.1 hi
  obtain ⟨hj1,hj2⟩:=List.mem_filter.1 hj
  have hi1:=List.mem_range.1 hi1
  have hj1:=List.mem_range.1 hj1
  rw [comp_get L i hi1,comp_get L j hj1]
  rcases (keeps_iff L j hj1).1 hj2 with h | h
  ·omega
  ·have h1:L[j - 1]'(by omega)≤L[j]:=hp (j - 1) j (by omega) hj1 (by omega)
   have h2:L[i]≤L[j - 1]'(by omega):=by
    rcases Nat.lt_or_ge i (j - 1) with h' | h'
    ·exact hp i (j - 1) hi1 (by omega) h'
    ·have:i=j - 1:=by omega
     subst this
     exact Int.le_refl _
   omega
 ·rw [List.mem_map]
  constructor
  ·rintro ⟨j,hj,rfl⟩
   have hj1:=List.mem_range.1 (List.mem_filter.1 hj).1
   rw [comp_get L j hj1]
   exact List.getElem_mem hj1
  ·intro hx
   obtain ⟨j,hj,rfl⟩:=List.getElem_of_mem hx
   have hfirst:∀ j (hj:j < L.length),∃ i,∃ hi:i < L.length,L[i]=L[j]∧Lib.keeps L.toArray i=true:=by
    intro j
    induction j with
    | zero=>intro hj;exact ⟨0,hj,rfl,(keeps_iff L 0 hj).2 (.inl rfl)⟩
    | succ j ih =>
      intro hj
      by_cases h:L[j+1]=L[j]'(by omega)
      ·obtain ⟨i,hi,e,k⟩:=ih (by omega)
       exact ⟨i,hi,e.trans h.symm,k⟩
      ·exact ⟨j+1,hj,rfl,(keeps_iff L (j+1) hj).2 (.inr (by simpa using h))⟩
   obtain ⟨i,hi,e,k⟩:=hfirst j hj
   exact ⟨i,List.mem_filter.2 ⟨List.mem_range.2 hi,k⟩,by rw [comp_get L i hi];exact e⟩
theorem nums_of (L:List Int):NumsOf L (Lib.compact (L.mergeSort fun x y=>decide (x≤y))):=by
 have hs:(L.mergeSort fun x y=>decide (x≤y)).Pairwise (·≤ ·):=by
  have:=List.pairwise_mergeSort (le:=fun x y=>decide (x≤y)) (fun a b c h1 h2=>by simp at *;omega) (fun a b=>by simp;omega) L
  exact this.imp (fun h=>by simpa using h)
 obtain ⟨h1,h2⟩:=compact_sorted _ hs
 refine ⟨h1,fun x=>by rw [h2 x];exact List.mem_mergeSort,?_⟩
 unfold Lib.compact Lib.compactUpTo
 rw [List.length_map]
 have:=List.length_filter_le (Lib.keeps (L.mergeSort fun x y=>decide (x≤y)).toArray) (List.range (L.mergeSort fun x y=>decide (x≤y)).length)
 rw [List.length_range] at this
 rw [List.length_mergeSort] at this ⊢
 exact this
def stA (l:List Stp) (i:Nat):Stp:=l.getD i (0,0,[])
theorem stA_at (l:List Stp) (i:Nat) (h:i < l.length):stA l i=l[i]:=by simp [stA,h]
theorem stA_mem (l:List Stp) (i:Nat) (h:i < l.length):stA l i∈l:=by rw [stA_at l i h];exact List.getElem_mem h
def inC (l:List Stp) (S:Int→Bool) (x:Int):Nat:=l.countP fun s=>decide (s.2.1=x)&&S s.1
def outC (l:List Stp) (S:Int→Bool) (x:Int):Nat:=l.countP fun s=>decide (s.1=x)&&S s.2.1
def frK (l:List Stp) (S:Int→Bool) (k:Nat) (x:Int):List Nat:=(List.range k).filter fun i=>decide ((stA l i).1=x)&&(S (stA l i).1&&S (stA l i).2.1)
def toK (l:List Stp) (S:Int→Bool) (k:Nat) (x:Int):List Nat:=(List.range k).filter fun i=>decide ((stA l i).2.1=x)&&(S (stA l i).1&&S (stA l i).2.1)
abbrev frL (l:List Stp) (S:Int→Bool) (x:Int):List Nat:=frK l S l.length x
abbrev toL (l:List Stp) (S:Int→Bool) (x:Int):List Nat:=toK l S l.length x
theorem frK_lt (l:List Stp) (S:Int→Bool) (k:Nat) (x:Int):∀ i∈frK l S k x,i < k:=fun i hi=>List.mem_range.1 (List.mem_filter.1 hi).1
theorem toK_lt (l:List Stp) (S:Int→Bool) (k:Nat) (x:Int):∀ i∈toK l S k x,i < k:=fun i hi=>List.mem_range.1 (List.mem_filter.1 hi).1
theorem frK_len (l:List Stp) (S:Int→Bool) (k:Nat) (x:Int):(frK l S k x).length≤k:=by
 have:=List.length_filter_le (fun i=>decide ((stA l i).1=x)&&(S (stA l i).1&&S (stA l i).2.1)) (List.range k)
 rw [List.length_range] at this
 exact this
theorem toK_len (l:List Stp) (S:Int→Bool) (k:Nat) (x:Int):(toK l S k x).length≤k:=by
 have:=List.length_filter_le (fun i=>decide ((stA l i).2.1=x)&&(S (stA l i).1&&S (stA l i).2.1)) (List.range k)
 rw [List.length_range] at this
 exact this
theorem fr_mem (l:List Stp) (S:Int→Bool) (x:Int) (i:Nat):i∈frL l S x↔i < l.length∧(stA l i).1=x∧S x=true∧S (stA l i).2.1=true:=by
 unfold frL frK
 rw [List.mem_filter,List.mem_range]
 simp only [Bool.and_eq_true,decide_eq_true_eq]
 constructor
 ·rintro ⟨h1,h2,h3,h4⟩;exact ⟨h1,h2,by rw [← h2];exact h3,h4⟩
 ·rintro ⟨h1,h2,h3,h4⟩;exact ⟨h1,h2,by rw [h2];exact h3,h4⟩
theorem to_mem (l:List Stp) (S:Int→Bool) (x:Int) (i:Nat):i∈toL l S x↔i < l.length∧(stA l i).2.1=x∧S (stA l i).1=true∧S x=true:=by
 unfold toL toK
 rw [List.mem_filter,List.mem_range]
 simp only [Bool.and_eq_true,decide_eq_true_eq]
 constructor
 ·rintro ⟨h1,h2,h3,h4⟩;exact ⟨h1,h2,h3,by rw [← h2];exact h4⟩
 ·rintro ⟨h1,h2,h3,h4⟩;exact ⟨h1,h2,h3,by rw [h2];exact h4⟩
def inK (l:List Stp) (S:Int→Bool) (k:Nat) (x:Int):Nat:=(l.take k).countP fun s=>decide (s.2.1=x)&&(S s.1&&S s.2.1)
def outK (l:List Stp) (S:Int→Bool) (k:Nat) (x:Int):Nat:=(l.take k).countP fun s=>decide (s.1=x)&&(S s.1&&S s.2.1)
theorem inK_le (l:List Stp) (S:Int→Bool) (k:Nat) (x:Int):inK l S k x≤k:=Nat.le_trans List.countP_le_length (by rw [List.length_take];omega)
theorem outK_le (l:List Stp) (S:Int→Bool) (k:Nat) (x:Int):outK l S k x≤k:=Nat.le_trans List.countP_le_length (by rw [List.length_take];omega)
theorem countP_same {α:Type} {p q:α→Bool} {l:List α} (h:∀ x∈l,p x=q x):l.countP p=l.countP q:=by
 rw [List.countP_eq_length_filter,List.countP_eq_length_filter,List.filter_congr h]
theorem inK_all (l:List Stp) (S:Int→Bool) (x:Int) (hx:S x=true):inK l S l.length x=inC l S x:=by
 unfold inK inC
 rw [List.take_length]
 refine countP_same fun s _=>?_
 by_cases h:s.2.1=x
 ·rw [h,hx];simp
 ·simp [h]
theorem outK_all (l:List Stp) (S:Int→Bool) (x:Int) (hx:S x=true):outK l S l.length x=outC l S x:=by
 unfold outK outC
 rw [List.take_length]
 refine countP_same fun s _=>?_
 by_cases h:s.1=x
 ·rw [h,hx];simp
 ·simp [h]
abbrev Cnt:=Int→Option (Int × Int)
def cntF (l:List Stp) (S:Int→Bool):Cnt:=fun x=>if S x then some ((inC l S x:Int),(outC l S x:Int)) else none
def cntK (l:List Stp) (S:Int→Bool) (k:Nat):Cnt:=fun x=>if S x then some ((inK l S k x:Int),(outK l S k x:Int)) else none
theorem cntK_all (l:List Stp) (S:Int→Bool):cntK l S l.length=cntF l S:=by
 funext x
 unfold cntK cntF
 by_cases h:S x=true
 ·rw [if_pos h,if_pos h,inK_all l S x h,outK_all l S x h]
 ·rw [if_neg h,if_neg h]
def updC (c:Cnt) (x:Int) (p:Int × Int):Cnt:=fun u=>if u=x then some p else c u
def delC (c:Cnt) (x:Int):Cnt:=fun u=>if u=x then none else c u
theorem take_count {α:Type} (p:α→Bool) (l:List α) (k:Nat) (h:k < l.length):(l.take (k+1)).countP p=(l.take k).countP p+(if p l[k] then 1 else 0):=by
 rw [List.take_succ_eq_append_getElem h,List.countP_append]
 simp [List.countP_cons]
theorem cntK_no (l:List Stp) (S:Int→Bool) (k:Nat) (h:k < l.length) (hn:(S (stA l k).1&&S (stA l k).2.1)=false):cntK l S (k+1)=cntK l S k:=by
 rw [stA_at l k h] at hn
 funext x
 unfold cntK inK outK
 rw [take_count _ l k h,take_count _ l k h,hn]
 simp
theorem frK_no (l:List Stp) (S:Int→Bool) (k:Nat) (hn:(S (stA l k).1&&S (stA l k).2.1)=false):frK l S (k+1)=frK l S k:=by
 funext x
 unfold frK
 rw [List.range_succ,List.filter_append]
 simp [hn]
theorem toK_no (l:List Stp) (S:Int→Bool) (k:Nat) (hn:(S (stA l k).1&&S (stA l k).2.1)=false):toK l S (k+1)=toK l S k:=by
 funext x
 unfold toK
 rw [List.range_succ,List.filter_append]
 simp [hn]
theorem cntK_yes (l:List Stp) (S:Int→Bool) (k:Nat) (h:k < l.length) (h1:S (stA l k).1=true) (h2:S (stA l k).2.1=true) :
 ∃ p q,cntK l S k (stA l k).1=some p∧updC (cntK l S k) (stA l k).1 (p.1,p.2+1) (stA l k).2.1=some q∧cntK l S (k+1)=updC (updC (cntK l S k) (stA l k).1 (p.1,p.2+1)) (stA l k).2.1 (q.1+1,q.2)∧0≤p.1∧p.1≤k∧0≤p.2∧p.2≤k∧0≤q.1∧q.1≤k∧0≤q.2∧q.2≤k+1:=by
 rw [stA_at l k h] at h1 h2 ⊢
 obtain ⟨a,ha⟩:∃ a,l[k].1=a:=⟨_,rfl⟩
 obtain ⟨b,hb⟩:∃ b,l[k].2.1=b:=⟨_,rfl⟩
 have hI:∀ x,inK l S (k+1) x=inK l S k x+(if b=x then 1 else 0):=fun x=>by
  unfold inK
  rw [take_count _ l k h,h1,h2,hb]
  simp
 have hO:∀ x,outK l S (k+1) x=outK l S k x+(if a=x then 1 else 0):=fun x=>by
  unfold outK
  rw [take_count _ l k h,h1,h2,ha]
  simp
 rw [ha] at h1 ⊢
 rw [hb] at h2 ⊢
 have iA:=inK_le l S k a
 have oA:=outK_le l S k a
 have iB:=inK_le l S k b
 have oB:=outK_le l S k b
 refine ⟨((inK l S k a:Int),(outK l S k a:Int)),((inK l S k b:Int),((outK l S k b+(if b=a then 1 else 0):Nat):Int)),?_,?_,?_,by omega,by omega,by omega,by omega,by omega,by omega,by omega,by split<;>omega⟩
 ·unfold cntK;rw [if_pos h1]
 ·unfold updC cntK
  by_cases e:b=a
  ·subst e;simp
  ·rw [if_neg e,if_pos h2,if_neg e];simp
 ·funext x
  unfold updC cntK
  rw [hI x,hO x]
  by_cases e1:x=b
  ·subst e1
   rw [if_pos h2,if_pos rfl,if_pos rfl]
   by_cases e2:a=x
   ·subst e2;simp
   ·rw [if_neg e2,if_neg (fun e=>e2 e.symm)];simp
  ·rw [if_neg e1,if_neg (fun e:b=x=>e1 e.symm)]
   by_cases e2:x=a
   ·subst e2;rw [if_pos h1,if_pos rfl,if_pos rfl];simp
   ·rw [if_neg e2,if_neg (fun e:a=x=>e2 e.symm)];simp
theorem frK_yes (l:List Stp) (S:Int→Bool) (k:Nat) (h1:S (stA l k).1=true) (h2:S (stA l k).2.1=true) (x:Int):frK l S (k+1) x=if x=(stA l k).1 then frK l S k x++[k] else frK l S k x:=by
 unfold frK
 rw [List.range_succ,List.filter_append]
 by_cases e:x=(stA l k).1
 ·rw [if_pos e,e];simp [h1,h2]
 ·rw [if_neg e]
  have e':¬ (stA l k).1=x:=fun h=>e h.symm
  simp [e']
theorem toK_yes (l:List Stp) (S:Int→Bool) (k:Nat) (h1:S (stA l k).1=true) (h2:S (stA l k).2.1=true) (x:Int):toK l S (k+1) x=if x=(stA l k).2.1 then toK l S k x++[k] else toK l S k x:=by
 unfold toK
 rw [List.range_succ,List.filter_append]
 by_cases e:x=(stA l k).2.1
 ·rw [if_pos e,e];simp [h1,h2]
 ·rw [if_neg e]
  have e':¬ (stA l k).2.1=x:=fun h=>e h.symm
  simp [e']
def st1 (c:Cnt) (x:Int):Cnt:=match c x with
 | none=>c
 | some p=>updC c x (p.1 - 1,p.2)
def st2 (c:Cnt) (x:Int):Cnt:=match c x with
 | none=>c
 | some p=>updC c x (p.1,p.2 - 1)
def s1 (c:Cnt) (X:List Int) (i:Nat):Cnt:=(X.take i).foldl st1 c
def s2 (c:Cnt) (X:List Int) (i:Nat):Cnt:=(X.take i).foldl st2 c
theorem s1_next (c:Cnt) (X:List Int) (i:Nat) (h:i < X.length):s1 c X (i+1)=st1 (s1 c X i) X[i]:=by
 unfold s1;rw [List.take_succ_eq_append_getElem h,List.foldl_append];rfl
theorem s2_next (c:Cnt) (X:List Int) (i:Nat) (h:i < X.length):s2 c X (i+1)=st2 (s2 c X i) X[i]:=by
 unfold s2;rw [List.take_succ_eq_append_getElem h,List.foldl_append];rfl
theorem s1_none (c:Cnt) (X:List Int) (i:Nat) (h:i < X.length) (hn:s1 c X i X[i]=none):s1 c X (i+1)=s1 c X i:=by
 rw [s1_next c X i h,st1,hn]
theorem s2_none (c:Cnt) (X:List Int) (i:Nat) (h:i < X.length) (hn:s2 c X i X[i]=none):s2 c X (i+1)=s2 c X i:=by
 rw [s2_next c X i h,st2,hn]
theorem s1_some (c:Cnt) (X:List Int) (i:Nat) (h:i < X.length) (p:Int × Int) (hn:s1 c X i X[i]=some p):s1 c X (i+1)=updC (s1 c X i) X[i] (p.1 - 1,p.2):=by
 rw [s1_next c X i h,st1,hn]
theorem s2_some (c:Cnt) (X:List Int) (i:Nat) (h:i < X.length) (p:Int × Int) (hn:s2 c X i X[i]=some p):s2 c X (i+1)=updC (s2 c X i) X[i] (p.1,p.2 - 1):=by
 rw [s2_next c X i h,st2,hn]
theorem s1_at (c:Cnt) (x:Int):∀ X:List Int,X.foldl st1 c x=(c x).map fun p=>(p.1 - (X.count x:Int),p.2):=by
 intro X
 induction X generalizing c with
 | nil=>rw [List.foldl_nil];cases c x<;>simp
 | cons y X ih =>
   rw [List.foldl_cons,ih (st1 c y)]
   unfold st1
   cases hy:c y with
   | none =>
     simp only
     by_cases e:y=x
     ·subst e;rw [hy];rfl
     ·rw [List.count_cons_of_ne e]
   | some p =>
     simp only
     unfold updC
     by_cases e:x=y
     ·subst e
      rw [if_pos rfl,hy,List.count_cons_self]
      simp only [Option.map_some,Option.some.injEq,Prod.mk.injEq,and_true]
      omega
     ·rw [if_neg e,List.count_cons_of_ne (fun h=>e h.symm)]
theorem s2_at (c:Cnt) (x:Int):∀ X:List Int,X.foldl st2 c x=(c x).map fun p=>(p.1,p.2 - (X.count x:Int)):=by
 intro X
 induction X generalizing c with
 | nil=>rw [List.foldl_nil];cases c x<;>simp
 | cons y X ih =>
   rw [List.foldl_cons,ih (st2 c y)]
   unfold st2
   cases hy:c y with
   | none =>
     simp only
     by_cases e:y=x
     ·subst e;rw [hy];rfl
     ·rw [List.count_cons_of_ne e]
   | some p =>
     simp only
     unfold updC
     by_cases e:x=y
     ·subst e
      rw [if_pos rfl,hy,List.count_cons_self]
      simp only [Option.map_some,Option.some.injEq,Prod.mk.injEq,true_and]
      omega
     ·rw [if_neg e,List.count_cons_of_ne (fun h=>e h.symm)]
def bndC (c:Cnt) (k M:Int):Prop:=∀ x p,c x=some p→-k≤p.1∧p.1≤M∧-k≤p.2∧p.2≤M
theorem bnd_s1 {c:Cnt} {k M:Int} (h:bndC c k M) (X:List Int) (i:Nat):bndC (s1 c X i) (k+i) M:=by
 intro x p hp
 unfold s1 at hp
 rw [s1_at] at hp
 cases hc:c x with
 | none=>rw [hc] at hp;cases hp
 | some q =>
   rw [hc] at hp
   simp only [Option.map_some,Option.some.injEq] at hp
   obtain ⟨a1,a2,a3,a4⟩:=h x q hc
   have hcnt:(X.take i).count x≤i:=Nat.le_trans List.count_le_length (by rw [List.length_take];omega)
   subst hp
   simp only
   omega
theorem bnd_s2 {c:Cnt} {k M:Int} (h:bndC c k M) (X:List Int) (i:Nat):bndC (s2 c X i) (k+i) M:=by
 intro x p hp
 unfold s2 at hp
 rw [s2_at] at hp
 cases hc:c x with
 | none=>rw [hc] at hp;cases hp
 | some q =>
   rw [hc] at hp
   simp only [Option.map_some,Option.some.injEq] at hp
   obtain ⟨a1,a2,a3,a4⟩:=h x q hc
   have hcnt:(X.take i).count x≤i:=Nat.le_trans List.count_le_length (by rw [List.length_take];omega)
   subst hp
   simp only
   omega
theorem bnd_del {c:Cnt} {k M:Int} (h:bndC c k M) (x:Int):bndC (delC c x) k M:=by
 intro y p hp
 unfold delC at hp
 by_cases e:y=x
 ·rw [if_pos e] at hp;cases hp
 ·rw [if_neg e] at hp;exact h y p hp
def outX (l:List Stp) (S:Int→Bool) (x:Int):List Int:=(frL l S x).map fun i=>(stA l i).2.1
def inX (l:List Stp) (S:Int→Bool) (x:Int):List Int:=(toL l S x).map fun i=>(stA l i).1
def takeF (l:List Stp) (S0:Int→Bool) (c:Cnt) (x:Int):Cnt:=(inX l S0 x).foldl st2 ((outX l S0 x).foldl st1 (delC c x))
def dropB (S:Int→Bool) (x:Int):Int→Bool:=fun u=>S u&&!decide (u=x)
theorem range_count (l:List Stp) (p:Stp→Bool):(List.range l.length).countP (fun i=>p (stA l i))=l.countP p:=by
 have:l.map p=(List.range l.length).map fun i=>p (stA l i):=by
  apply List.ext_getElem
  ·simp
  ·intro i h1 h2
   have hi:i < l.length:=by simpa using h1
   simp only [List.getElem_map,List.getElem_range]
   rw [stA_at l i hi]
 have h2:(l.map p).countP id=((List.range l.length).map fun i=>p (stA l i)).countP id:=by rw [this]
 rw [List.countP_map,List.countP_map] at h2
 exact h2.symm
theorem outX_count (l:List Stp) (S0:Int→Bool) (x y:Int) (hx:S0 x=true) (hy:S0 y=true):(outX l S0 x).count y=l.countP fun s=>decide (s.1=x)&&decide (s.2.1=y):=by
 rw [← range_count l (fun s=>decide (s.1=x)&&decide (s.2.1=y))]
 unfold outX frL frK List.count
 rw [List.countP_map,List.countP_filter]
 refine countP_same fun i _=>?_
 simp only [Function.comp]
 by_cases h1:(stA l i).1=x
 ·by_cases h2:(stA l i).2.1=y
  ·simp [h1,h2,hx,hy]
  ·simp [h2]
 ·simp [h1]
theorem inX_count (l:List Stp) (S0:Int→Bool) (x y:Int) (hx:S0 x=true) (hy:S0 y=true):(inX l S0 x).count y=l.countP fun s=>decide (s.2.1=x)&&decide (s.1=y):=by
 rw [← range_count l (fun s=>decide (s.2.1=x)&&decide (s.1=y))]
 unfold inX toL toK List.count
 rw [List.countP_map,List.countP_filter]
 refine countP_same fun i _=>?_
 simp only [Function.comp]
 by_cases h1:(stA l i).2.1=x
 ·by_cases h2:(stA l i).1=y
  ·simp [h1,h2,hx,hy]
  ·simp [h2]
 ·simp [h1]
theorem countP_split {α:Type} (l:List α) (p q r:α→Bool) (h:∀ x∈l,(if p x then 1 else 0)=(if q x then 1 else 0)+(if r x then (1:Nat) else 0)):l.countP p=l.countP q+l.countP r:=by
 induction l with
 | nil=>rfl
 | cons x l ih =>
   rw [List.countP_cons,List.countP_cons,List.countP_cons,ih (fun y hy=>h y (List.mem_cons_of_mem _ hy)),h x (List.mem_cons_self ..)]
   omega
theorem inC_drop (l:List Stp) (S:Int→Bool) (x y:Int) (hx:S x=true):inC l S y=inC l (dropB S x) y+l.countP fun s=>decide (s.1=x)&&decide (s.2.1=y):=by
 unfold inC
 refine countP_split l _ _ _ fun s _=>?_
 unfold dropB
 by_cases h1:s.2.1=y
 ·by_cases h2:s.1=x
  ·simp [h1,h2,hx]
  ·simp [h1,h2]
 ·simp [h1]
theorem outC_drop (l:List Stp) (S:Int→Bool) (x y:Int) (hx:S x=true):outC l S y=outC l (dropB S x) y+l.countP fun s=>decide (s.2.1=x)&&decide (s.1=y):=by
 unfold outC
 refine countP_split l _ _ _ fun s _=>?_
 unfold dropB
 by_cases h1:s.1=y
 ·by_cases h2:s.2.1=x
  ·simp [h1,h2,hx]
  ·simp [h1,h2]
 ·simp [h1]
theorem takeF_is (l:List Stp) (S0 S:Int→Bool) (x:Int) (hx:S x=true) (hs:∀ y,S y=true→S0 y=true):takeF l S0 (cntF l S) x=cntF l (dropB S x):=by
 funext y
 unfold takeF
 rw [s2_at,s1_at]
 unfold delC cntF
 by_cases e:y=x
 ·subst e
  rw [if_pos rfl]
  simp [dropB]
 ·rw [if_neg e]
  by_cases hy:S y=true
  ·have hd:dropB S x y=true:=by simp [dropB,hy,e]
   rw [if_pos hy,if_pos hd,outX_count l S0 x y (hs x hx) (hs y hy),inX_count l S0 x y (hs x hx) (hs y hy)]
   have h1:=inC_drop l S x y hx
   have h2:=outC_drop l S x y hx
   simp only [Option.map_some,Option.some.injEq,Prod.mk.injEq]
   omega
  ·have hd:dropB S x y=false:=by simp [dropB,hy]
   rw [if_neg hy,if_neg (by rw [hd];decide)]
   rfl
theorem bnd_cntF (l:List Stp) (S:Int→Bool):bndC (cntF l S) 0 (l.length:Int):=by
 intro x p hp
 unfold cntF at hp
 by_cases h:S x=true
 ·rw [if_pos h] at hp
  cases hp
  have h1:inC l S x≤l.length:=List.countP_le_length
  have h2:outC l S x≤l.length:=List.countP_le_length
  simp only
  omega
 ·rw [if_neg h] at hp;cases hp
end Go.Proofs.YtiihegldhnlleaaGreat
