/-
  What history.living hands to a loop, whatever is done with it.
-/
import Derived.Test.YtpmcmohdhicfcaaGP
import Derived.Test.YtpmcmohdhicfcaaGD
import Derived.Test.YtpmcmohdhicfcaaGA
import Derived.Test.YtpmcmohdhicfcaaGE
import Derived.Lib.Hide
namespace Go.Proofs.Ytpmcmohdhicfcaa
set_option maxRecDepth 100000
open Go.RowKit Go.Shelf Go.Maps
set_option linter.unusedVariables false
attribute [local go_sem] Oper.semAt_some
abbrev livingF (b : Nat) : Value := .func (.func 45) #[] #[.pointer (some ⟨b, 0, none⟩)]
theorem pliving_any (a : Option Addr) (n cap : Nat) (w : World) :
    Calls Try.prog 35 #[.slice a n cap] w fun e w' => e = .returned (livingF w.heap.size) ∧ w' = w.alloc (.cells #[.slice a n cap] 22) := by
  go_enter Try.func35, Try.ntmps35
  go_wp2_with fail
  go_ret
  exact ⟨rfl, rfl⟩
theorem zero8u (w : World) : (zeroValue 65).run Try.prog w = .ok (.agg #[]) w := by kernel_rfl
/-- What a round keeps: all that lay ahead, the slice's box, and the iterator's own blocks. -/
structure KpL (n b A : Nat) (W W' : World) : Prop where
  below : Below n W W'
  box : W'.heap[b]? = W.heap[b]?
  own : ∀ j, A ≤ j → j < A + 1 + 1 + 1 + 1 → W'.heap[j]? = W.heap[j]?
theorem KpL.trans {n b A : Nat} {X Y Z : World} (h : KpL n b A X Y) (k : KpL n b A Y Z) : KpL n b A X Z :=
  ⟨h.below.trans k.below, k.box.trans h.box, fun j h1 h2 => (k.own j h1 h2).trans (h.own j h1 h2)⟩
/-- What the loop within keeps. -/
structure VSt (V : World) (l : Nat) (sl : Value) (m : Nat) (p : Int → Bool) (W : World) : Prop where
  size : V.heap.size + 1 + 1 + 1 + 1 ≤ W.heap.size
  by_ : Boxed W (V.heap.size) 71 (.func (.yield l) #[] #[])
  bm : ISet W (V.heap.size + 1) m p
  bb : Boxed W (V.heap.size + 1 + 1) 72 (.map (some (V.heap.size + 1)))
  be : Boxed W (V.heap.size + 1 + 1 + 1) 22 sl
theorem VSt.bel {V : World} {l : Nat} {sl : Value} {m : Nat} {p : Int → Bool} {W W' : World} (h : VSt V l sl m p W) (hb : Below (V.heap.size + 1 + 1 + 1 + 1) W W') : VSt V l sl m p W' :=
  ⟨Nat.le_trans h.size hb.size, boxed_bel h.by_ hb (by omega), h.bm.bel hb (by omega), boxed_bel h.bb hb (by omega), boxed_bel h.be hb (by omega)⟩
theorem VSt.turn {V : World} {l : Nat} {sl : Value} {m m' : Nat} {p p' : Int → Bool} {W W' : World} (h : VSt V l sl m p W) (hg : W.grownBy W' (some (V.heap.size + 1))) (hf : ISet W' (V.heap.size + 1) m' p') : VSt V l sl m' p' W' :=
  ⟨Nat.le_trans h.size hg.size, h.by_.kept hg (fun e => by have := Option.some.inj e; omega), hf, h.bb.kept hg (fun e => by have := Option.some.inj e; omega), h.be.kept hg (fun e => by have := Option.some.inj e; omega)⟩
theorem VSt.own {V : World} {l : Nat} {sl : Value} {m : Nat} {p : Int → Bool} {W W' : World} (h : VSt V l sl m p W) (hs : W.heap.size ≤ W'.heap.size) (ho : ∀ j, V.heap.size ≤ j → j < V.heap.size + 1 + 1 + 1 + 1 → W'.heap[j]? = W.heap[j]?) : VSt V l sl m p W' :=
  ⟨Nat.le_trans h.size hs, (ho _ (by omega) (by omega)).trans h.by_, h.bm.same (ho _ (by omega) (by omega)), (ho _ (by omega) (by omega)).trans h.bb, (ho _ (by omega) (by omega)).trans h.be⟩
/-- A step that turns one block that is no cells, of the iterator's own, or none. -/
theorem own_step {β : Type} {B : Nat} {J : β → World → Prop} (hJ : OwnFrom B J) {s : β} {W W' : World} (h : J s W) (hg : Below W.heap.size W W') : J s W' :=
  hJ s W W' none h (grown_below8 none hg) (fun r e => by cases e)
set_option maxHeartbeats 4000000 in
theorem living8_in (h : List Ev) (w0 : World) (a : Option Addr) (cap : Nat) (hT : IsEvs w0 (.slice a h.length cap) h) (hG : ∀ x ∈ h, goodE x) (hn : h.length ≤ 300) (bh k l : Nat) (V : World) (hW : Below w0.heap.size w0 V) (hbox : Boxed V bh 22 (.slice a h.length cap)) (J Jx : List (Fin h.length) → World → Prop) (hJ : OwnFrom V.heap.size J) (hJx : OwnFrom V.heap.size Jx)
    (hY : ∀ pre x W, J pre W → pre.length < h.length → V.heap.size + 1 + 1 + 1 + 1 ≤ W.heap.size → YieldAt Fence.wide (k - 1) Try.prog l (ixV h x) W fun e W' => (e = .returned (.bool true) ∧ J (pre ++ [x]) W' ∧ KpL w0.heap.size bh V.heap.size W W' ∧ KeepsFrom V.heap.size W W') ∨ (e = .returned (.bool false) ∧ Jx (pre ++ [x]) W' ∧ KeepsFrom V.heap.size W W'))
    (h0 : J [] V) :
    CallsIn Fence.wide k Try.prog 45 #[.func (.yield l) #[] #[], .pointer (some ⟨bh, 0, none⟩)] V fun e W' => (∃ v, e = .returned v) ∧
      ((∃ ys, ys = livP h ∧ J ys W') ∨ (∃ pre, pre <+: livP h ∧ Jx pre W')) := by
  have hdd : ∀ k : Nat, (Fence.wide.depth.isSome = true → 1 ≤ k) := fun k h => by cases h
  have hmm := @run_makeMap Try.prog
  have c0 := (((hbox.alloc (.cells #[.func (.yield l) #[] #[]] 71)).alloc (.map #[] 0)).alloc (.cells #[.map (some (V.heap.size + 1))] 72)).cell
  have hbl := hbox.lt
  refine callsIn_depth 5 ?_
  refine callsIn_of_wp_marks Try.func45 rfl trivial ?_ rfl
  simp only [Try.ntmps45, List.size_toArray, List.length_cons, List.length_nil, Nat.reduceAdd, Nat.reduceSub, Array.replicate_succ, Array.replicate_zero, List.push_toArray, List.append_toArray, List.nil_append, List.cons_append]
  gi_wp2_with ((try refine ⟨trivial, ?_⟩); gi_at_call 30; refine (callsIn_wide.2 (pevents8_any _ _ _ _)).mono ?_; rintro e w2 ⟨rfl, rfl⟩)
  have hS0 : VSt V l (.slice a h.length cap) 0 (fun _ => false) ((((V.alloc (.cells #[.func (.yield l) #[] #[]] 71)).alloc (.map #[] 0)).alloc (.cells #[.map (some (V.heap.size + 1))] 72)).alloc (.cells #[.slice a h.length cap] 22)) := by
    have b0 := (((Boxed.new V 71 (.func (.yield l) #[] #[])).alloc (.map #[] 0)).alloc (.cells #[.map (some (V.heap.size + 1))] 72)).alloc (.cells #[.slice a h.length cap] 22)
    have b1 := ((ISet.made (V.alloc (.cells #[.func (.yield l) #[] #[]] 71))).kept (World.grownBy_alloc _ (.cells #[.map (some (V.heap.size + 1))] 72) none) (by simp)).kept (World.grownBy_alloc _ (.cells #[.slice a h.length cap] 22) none) (by simp)
    have b2 := (Boxed.new ((V.alloc (.cells #[.func (.yield l) #[] #[]] 71)).alloc (.map #[] 0)) 72 (.map (some (V.heap.size + 1)))).alloc (.cells #[.slice a h.length cap] 22)
    have b3 := Boxed.new (((V.alloc (.cells #[.func (.yield l) #[] #[]] 71)).alloc (.map #[] 0)).alloc (.cells #[.map (some (V.heap.size + 1))] 72)) 22 (.slice a h.length cap)
    simp only [World.size_alloc] at b0 b1 b2 b3
    exact ⟨by simp, b0, b1, b2, b3⟩
  have B0 : Below V.heap.size V ((((V.alloc (.cells #[.func (.yield l) #[] #[]] 71)).alloc (.map #[] 0)).alloc (.cells #[.map (some (V.heap.size + 1))] 72)).alloc (.cells #[.slice a h.length cap] 22)) := ((((Below.refl _ V).alloc (Nat.le_refl _) _).alloc (by simp) _).alloc (by simp; omega) _).alloc (by simp; omega) _
  obtain ⟨W0, hW0⟩ : ∃ W0, ((((V.alloc (.cells #[.func (.yield l) #[] #[]] 71)).alloc (.map #[] 0)).alloc (.cells #[.map (some (V.heap.size + 1))] 72)).alloc (.cells #[.slice a h.length cap] 22)) = W0 := ⟨_, rfl⟩
  have sW0 : W0.heap.size = V.heap.size + 1 + 1 + 1 + 1 := by rw [← hW0]; simp
  change Code.wpIn _ _ _ _ _ _ ((((V.alloc (.cells #[.func (.yield l) #[] #[]] 71)).alloc (.map #[] 0)).alloc (.cells #[.map (some (V.heap.size + 1))] 72)).alloc (.cells #[.slice a h.length cap] 22))
  rw [hW0] at hS0 B0 ⊢
  clear hW0 c0
  have J0 : J [] W0 := own_step hJ h0 B0
  refine wpIn_rangeFunc_ownH rfl (by omega) (gf := 42) (lb := #[.pointer (some ⟨V.heap.size + 1 + 1 + 1, 0, none⟩)]) rfl trivial (enters_of Try.func42 (by kernel_rfl) rfl)
    (events8_stops h w0 a cap hT (V.heap.size + 1 + 1 + 1) (5 - 1) W0 (hW.trans (B0.mono hW.size)) hS0.be) (fun h k => kpE_t h k) (kpE_b (by have := hW.size; omega) (by omega)) (Below.refl _ _) (fun _ => rfl)
    (fun pre W => J (livF h pre) W ∧ VSt V l (.slice a h.length cap) pre.length (endedIn h pre) W ∧ Below V.heap.size V V) (fun c pre W => c = .ret ∧ Jx (livF h pre) W)
    (fun s X Y row ⟨hj, hs, hb⟩ hg hr => ⟨hJ _ X Y row hj hg (fun r e => ⟨by have := (hr r e).1; omega, (hr r e).2⟩), hs.bel ((Below.refl _ X).grown hg hs.size (fun r e => by have := (hr r e).1; omega)), hb⟩)
    (fun c s X Y row ⟨hc, hj⟩ hg hr => ⟨hc, hJx _ X Y row hj hg (fun r e => ⟨by have := (hr r e).1; omega, (hr r e).2⟩)⟩)
    ⟨J0, hS0, Below.refl _ _⟩
    (fun x a' W => ∃ Bx, V.heap.size + 1 + 1 + 1 < Bx ∧ SBox W Bx 50 #[.int .i64 h[x.val].1, .int .i64 h[x.val].2.1, .string ⟨h[x.val].2.2.1.toArray⟩, .string ⟨h[x.val].2.2.2.toArray⟩] ∧ a' = { tmps := #[.func (.yield l) #[] #[], .pointer (some ⟨bh, 0, none⟩), .pointer (some ⟨V.heap.size, 0, none⟩), .pointer (some ⟨V.heap.size + 1 + 1, 0, none⟩), .int .i64 (x.val : Int), .pointer (some ⟨Bx, 0, none⟩), undef, undef, .map (some (V.heap.size + 1)), .slice a h.length cap, eventsF8 (V.heap.size + 1 + 1 + 1), .int .i64 (x.val : Int), evW h[x.val], undef, undef, undef, undef, undef, undef, undef, undef, undef, undef, undef, undef, undef, undef, undef, undef, undef, undef, undef], defers := [] })
    (fun x a' _ A B row hs hg hr => by
      obtain ⟨Bx, h1, h2, h4⟩ := hs
      exact ⟨Bx, h1, block_kept h2 hg (fun r e => (hr r e).2), h4⟩)
    ?assign ?body ?done ?stop
  case assign =>
    rintro l' pre x W K ⟨hj, hS, _⟩ hK
    have hsz := hS.size
    gi_wp2
    have b1 := (Below.refl W.heap.size W).alloc (Nat.le_refl _) (.cells #[.int .i64 h[x.val].1, .int .i64 h[x.val].2.1, .string ⟨h[x.val].2.2.1.toArray⟩, .string ⟨h[x.val].2.2.2.toArray⟩] 50)
    refine hK _ _ ((KeepsOthers.alloc _ _).from _) ⟨(Below.refl _ W).alloc (by have := hW.size; omega) _, Below.heap_alloc W _ _ (by omega)⟩ ⟨own_step hJ hj b1, hS.bel (b1.mono hsz), Below.refl _ _⟩ ⟨W.heap.size, by omega, SBox.new W _ _, rfl⟩
  case body =>
    rintro l' pre x a' W hl hrec ⟨hj, hS, _⟩ ⟨Bx, hBx, hblk, rfl⟩ hlt
    have HW0 : Hid (W0.heap.size = V.heap.size + 1 + 1 + 1 + 1) := sW0
    have hVs := hW.size
    clear sW0 hS0 hl hrec J0 B0
    have hsz := hS.size
    have hxn := x.isLt
    have hgx := hG h[x.val] (List.getElem_mem _)
    obtain ⟨⟨y0, y1, y2, y3⟩, hy⟩ : ∃ y, h[x.val] = y := ⟨_, rfl⟩
    have HY : Hid (h[x.val] = (y0, y1, y2, y3)) := hy
    have e21 : h[x.val].2.1 = y1 := by rw [hy]
    have HDead : Hid (endedIn h pre y1 = true → livF h (pre ++ [x]) = livF h pre) := fun he => livF_snoc_dead h pre x (by rw [e21]; exact he)
    have HLive : Hid (endedIn h pre y1 = false → livF h (pre ++ [x]) = livF h pre ++ [x]) := fun he => livF_snoc h pre x (by rw [e21]; exact he)
    have HE : Hid (endedIn h (pre ++ [x]) = fun t => (endedIn h pre t || decide (y1 = t ∧ (y0 = 4 ∨ y0 = 5)))) := by
      show _ = _
      funext t
      rw [endedIn_snoc, hy]
    have ki := key8i hgx.2.1
    rw [e21] at ki
    clear e21 hgx
    rw [hy] at hblk ⊢
    simp only at hblk
    clear hy
    have q0 := hblk.cell 0 _ rfl
    have q1 := hblk.cell 1 _ rfl
    have q2 := hblk.cell 2 _ rfl
    have q3 := hblk.cell 3 _ rfl
    obtain ⟨i, hxi⟩ : ∃ i, x.val = i := ⟨_, rfl⟩
    have HI : Hid (x.val = i) := hxi
    rw [hxi] at hxn ⊢
    clear hxi
    have c1 := hS.bb.cell
    obtain ⟨D, hown, hD⟩ := hS.bm
    have hDy := hD y1
    have lenx : (pre ++ [x]).length = pre.length + 1 := by simp
    have LX : Hid ((pre ++ [x]).length = pre.length + 1) := lenx
    clear lenx
    have bU := (Below.refl W.heap.size W).alloc (Nat.le_refl _) (.cells #[] 65)
    cases he : endedIn h pre y1 with
    | true =>
      rw [he] at hDy
      have HF : Hid (KeepsFrom W0.heap.size W (W.alloc (.cells #[] 65)) ∧ KpE w0.heap.size (V.heap.size + 1 + 1 + 1) W (W.alloc (.cells #[] 65)) ∧ (J (livF h (pre ++ [x])) (W.alloc (.cells #[] 65)) ∧ VSt V l (.slice a h.length cap) (pre ++ [x]).length (endedIn h (pre ++ [x])) (W.alloc (.cells #[] 65)) ∧ Below V.heap.size V V)) := by
        refine ⟨(KeepsOthers.alloc _ _).from _, ⟨bU.mono (by omega), bU.block _ (by omega)⟩, by rw [HDead.out he]; exact own_step hJ hj bU, ?_, Below.refl _ _⟩
        have hS' := hS.bel (bU.mono hsz)
        refine ⟨hS'.size, hS'.by_, ?_, hS'.bb, hS'.be⟩
        rw [LX.out, HE.out]
        have e : (fun t => (endedIn h pre t || decide (y1 = t ∧ (y0 = 4 ∨ y0 = 5)))) = endedIn h pre := by
          funext t
          by_cases ht : y1 = t
          · subst ht; rw [he]; rfl
          · rw [decide_eq_false (fun hh => ht hh.1), Bool.or_false]
        rw [e]
        exact hS'.bm.mono (Nat.le_succ _)
      clear hS hj HDead HLive HE hY hJ hJx he
      gi_wp2_with (gi_at_lookup; refine wpListIn_lookup_own_unit _ rfl _ _ 72 rfl 3 65 law8i Try.underlying72 (zero8u _) (V.heap.size + 1) pre.length D rfl hown _ _ rfl ki ?_; rw [hDy])
      exact HF.out
    | false =>
      rw [he] at hDy
      have C := pends_any y0 y1 y2 y3 (W.alloc (.cells #[] 65))
      have q0' := cell_bel bU q0
      have q1' := cell_bel bU q1
      have q2' := cell_bel bU q2
      have q3' := cell_bel bU q3
      by_cases hm : y0 = 4 ∨ y0 = 5
      · rw [decide_eq_true hm] at C
        have HM : Hid (y0 = 4 ∨ y0 = 5) := hm
        clear hm
        gi_wp2_with (first
          | (gi_at_lookup; refine wpListIn_lookup_own_unit _ rfl _ _ 72 rfl 3 65 law8i Try.underlying72 (zero8u _) (V.heap.size + 1) pre.length D rfl hown _ _ rfl ki ?_; rw [hDy])
          | ((try refine ⟨trivial, ?_⟩); gi_at_call 36; refine (CallsIn.inRound l' (callsIn_wide.2 C)).mono ?_; clear C; rintro e W1 ⟨rfl, b1⟩; refine Hid.out ?_))
        have bW1 : Below W.heap.size W W1 := bU.trans (b1.mono (by simp))
        have s1 := bW1.size
        have hS1 := hS.bel (bW1.mono hsz)
        have x1 := hblk.below bW1
        have c2 := hS1.bb.cell
        have r0 := x1.cell 0 _ rfl
        have r1 := x1.cell 1 _ rfl
        have r2 := x1.cell 2 _ rfl
        have r3 := x1.cell 3 _ rfl
        obtain ⟨D1, hown1, hD1⟩ := hS1.bm
        have j1 : J (livF h pre) W1 := own_step hJ hj bW1
        clear hD hown hDy q0 q1 q2 q3 q0' q1' q2' q3' c1
        refine Lib.hid ?_
        gi_wp2_with (gi_at_mapUpdate; refine wpListIn_mapUpdate_own _ rfl _ _ _ 72 rfl 3 65 law8i Try.underlying72 _ (V.heap.size + 1) pre.length D1 rfl hown1 (by unfold maxLen; omega) _ _ _ rfl rfl ki _ [] unitElem_mk ?_; intro W2 hown2 hg2; refine Hid.out ?_)
        have hS2 : VSt V l (.slice a h.length cap) (pre ++ [x]).length (endedIn h (pre ++ [x])) W2 := by
          have e : (fun t => (endedIn h pre t || decide (y1 = t ∧ (y0 = 4 ∨ y0 = 5)))) = fun t => (endedIn h pre t || decide (y1 = t)) := by
            funext t
            congr 1
            rw [decide_eq_decide]
            exact ⟨fun hh => hh.1, fun hh => ⟨hh, HM.out⟩⟩
          rw [LX.out, HE.out, e]
          exact hS1.turn hg2 (ISet.put hD1 hown1.isMap y1 hown2)
        have j2 : J (livF h pre) W2 := hJ _ _ _ _ j1 hg2 (fun r e => by
          cases e
          obtain ⟨es, cl, hb, _⟩ := hown1
          exact ⟨by omega, _, hb, rfl⟩)
        have x2 : SBox W2 Bx 50 _ := (hg2.block Bx x1.lt (by simp; omega)).trans x1
        have KK : KeepsFrom W0.heap.size W W2 := by
          have hw0 := HW0.out
          exact ((keeps_of_below bW1).from _).trans (KeepsFrom.of_grownBy hg2 (fun j e => by cases e; omega))
        have BB : Below w0.heap.size W W2 := (bW1.mono (by omega)).grown hg2 (by omega) (fun k e => by cases e; omega)
        have EB : W2.heap[V.heap.size + 1 + 1 + 1]? = W.heap[V.heap.size + 1 + 1 + 1]? := (hg2.block _ (by omega) (fun e => by have := Option.some.inj e; omega)).trans (bW1.block _ (by omega))
        clear hS1 j1 x1 bW1 b1 c2 r0 r1 r2 r3 hown1 hD1 hown2 hg2 hS hj bU HM
        obtain ⟨fn, tmps, assign, body, hy, hR⟩ := yield_any (5 - 1 - 1 - 1) (hY _ x W2 j2 (by have := livF_len h pre; omega) hS2.size)
        have hyx := HY.out
        have hix := HI.out
        simp only [ixV, evW, hyx] at hy
        rw [hix] at hy
        clear hyx hix
        have r0 := x2.cell 0 _ rfl
        have r1 := x2.cell 1 _ rfl
        have r2 := x2.cell 2 _ rfl
        have r3 := x2.cell 3 _ rfl
        have cy := hS2.by_.cell
        refine Lib.hid ?_
        gi_wp2
        refine RoundIn.mono (show RoundIn (Fence.wide.inRound l') _ _ _ _ _ _ _ _ _ from hR) ?_
        rintro e W3 (⟨rfl, hJ3, hk3, hf3⟩ | ⟨rfl, hJx3, hf3⟩)
        · have HF : Hid (KeepsFrom W0.heap.size W W3 ∧ KpE w0.heap.size (V.heap.size + 1 + 1 + 1) W W3 ∧ (J (livF h (pre ++ [x])) W3 ∧ VSt V l (.slice a h.length cap) (pre ++ [x]).length (endedIn h (pre ++ [x])) W3 ∧ Below V.heap.size V V)) := by
            have hw0 := HW0.out
            refine ⟨KK.trans (keeps_far hf3 (by omega)), ⟨BB.trans hk3.below, (hk3.own _ (by omega) (by omega)).trans EB⟩, by rw [HLive.out he]; exact hJ3, hS2.own hf3.size (fun j h1 h2 => hk3.own j h1 h2), Below.refl _ _⟩
          clear hS2 hk3 hf3 hJ3 HLive HE hY hJ hJx he
          gi_wp2
          exact HF.out
        · have hlv := HLive.out he
          have hw0 := HW0.out
          have HF : Hid (KeepsFrom W0.heap.size W W3 ∧ Jx (livF h (pre ++ [x])) W3) := ⟨KK.trans (keeps_far hf3 (by omega)), by rw [hlv]; exact hJx3⟩
          clear hS2 hf3 hJx3 HLive HE hY hJ hJx he hlv hw0
          gi_wp2
          exact ⟨HF.out.1, rfl, HF.out.2⟩
      · rw [decide_eq_false hm] at C
        have HM : Hid (¬ (y0 = 4 ∨ y0 = 5)) := hm
        clear hm
        gi_wp2_with (first
          | (gi_at_lookup; refine wpListIn_lookup_own_unit _ rfl _ _ 72 rfl 3 65 law8i Try.underlying72 (zero8u _) (V.heap.size + 1) pre.length D rfl hown _ _ rfl ki ?_; rw [hDy])
          | ((try refine ⟨trivial, ?_⟩); gi_at_call 36; refine (CallsIn.inRound l' (callsIn_wide.2 C)).mono ?_; clear C; rintro e W2 ⟨rfl, b1⟩; refine Hid.out ?_))
        have bW1 : Below W.heap.size W W2 := bU.trans (b1.mono (by simp))
        have s1 := bW1.size
        have hS2 : VSt V l (.slice a h.length cap) (pre ++ [x]).length (endedIn h (pre ++ [x])) W2 := by
          have e : (fun t => (endedIn h pre t || decide (y1 = t ∧ (y0 = 4 ∨ y0 = 5)))) = endedIn h pre := by
            funext t
            rw [decide_eq_false (fun hh => HM.out hh.2), Bool.or_false]
          have hS1 := hS.bel (bW1.mono hsz)
          rw [LX.out, HE.out, e]
          exact ⟨hS1.size, hS1.by_, hS1.bm.mono (Nat.le_succ _), hS1.bb, hS1.be⟩
        have j2 : J (livF h pre) W2 := own_step hJ hj bW1
        have x2 : SBox W2 Bx 50 _ := hblk.below bW1
        have KK : KeepsFrom W0.heap.size W W2 := (keeps_of_below bW1).from _
        have BB : Below w0.heap.size W W2 := bW1.mono (by omega)
        have EB : W2.heap[V.heap.size + 1 + 1 + 1]? = W.heap[V.heap.size + 1 + 1 + 1]? := bW1.block _ (by omega)
        clear hD hown hDy q0 q1 q2 q3 q0' q1' q2' q3' c1 bW1 b1 hS hj bU HM
        obtain ⟨fn, tmps, assign, body, hy, hR⟩ := yield_any (5 - 1 - 1 - 1) (hY _ x W2 j2 (by have := livF_len h pre; omega) hS2.size)
        have hyx := HY.out
        have hix := HI.out
        simp only [ixV, evW, hyx] at hy
        rw [hix] at hy
        clear hyx hix
        have r0 := x2.cell 0 _ rfl
        have r1 := x2.cell 1 _ rfl
        have r2 := x2.cell 2 _ rfl
        have r3 := x2.cell 3 _ rfl
        have cy := hS2.by_.cell
        refine Lib.hid ?_
        gi_wp2
        refine RoundIn.mono (show RoundIn (Fence.wide.inRound l') _ _ _ _ _ _ _ _ _ from hR) ?_
        rintro e W3 (⟨rfl, hJ3, hk3, hf3⟩ | ⟨rfl, hJx3, hf3⟩)
        · have HF : Hid (KeepsFrom W0.heap.size W W3 ∧ KpE w0.heap.size (V.heap.size + 1 + 1 + 1) W W3 ∧ (J (livF h (pre ++ [x])) W3 ∧ VSt V l (.slice a h.length cap) (pre ++ [x]).length (endedIn h (pre ++ [x])) W3 ∧ Below V.heap.size V V)) := by
            have hw0 := HW0.out
            refine ⟨KK.trans (keeps_far hf3 (by omega)), ⟨BB.trans hk3.below, (hk3.own _ (by omega) (by omega)).trans EB⟩, by rw [HLive.out he]; exact hJ3, hS2.own hf3.size (fun j h1 h2 => hk3.own j h1 h2), Below.refl _ _⟩
          clear hS2 hk3 hf3 hJ3 HLive HE hY hJ hJx he
          gi_wp2
          exact HF.out
        · have hlv := HLive.out he
          have hw0 := HW0.out
          have HF : Hid (KeepsFrom W0.heap.size W W3 ∧ Jx (livF h (pre ++ [x])) W3) := ⟨KK.trans (keeps_far hf3 (by omega)), by rw [hlv]; exact hJx3⟩
          clear hS2 hf3 hJx3 HLive HE hY hJ hJx he hlv hw0
          gi_wp2
          exact ⟨HF.out.1, rfl, HF.out.2⟩
  case done =>
    rintro D ys W hD rfl ⟨hj, hS, _⟩ hK
    have HD : Hid (V.heap.size + 1 + 1 + 1 + 1 ≤ D) := by rw [sW0] at hD; exact hD
    clear sW0 hS0 hD
    gi_wp2
    refine ⟨by simp, .inl ⟨_, _, rfl, run_takeDeferred hK, ?_⟩⟩
    exact ⟨_, results_none rfl _ _ _, ⟨_, rfl⟩, .inl ⟨_, rfl, hJ.putObj _ hj (by have := HD.out; omega) hK rfl⟩⟩
  case stop =>
    rintro D c pre W hD hSp ⟨rfl, hj⟩ hK
    have HD : Hid (V.heap.size + 1 + 1 + 1 + 1 ≤ D) := by rw [sW0] at hD; exact hD
    clear sW0 hS0 hD
    gi_wp2
    refine ⟨by simp, .inl ⟨_, _, rfl, run_takeDeferred hK, ?_⟩⟩
    exact ⟨_, results_none rfl _ _ _, ⟨_, rfl⟩, .inr ⟨_, livF_prefix h hSp, hJx.putObj _ hj (by have := HD.out; omega) hK rfl⟩⟩
theorem living8_stops (h : List Ev) (w0 : World) (a : Option Addr) (cap : Nat) (hT : IsEvs w0 (.slice a h.length cap) h) (hG : ∀ x ∈ h, goodE x) (hn : h.length ≤ 300) (bh k l : Nat) (w V : World) (hW : Below w0.heap.size w0 w) (hbox : Boxed w bh 22 (.slice a h.length cap)) (hV : Below w.heap.size w V) :
    SeqStopsW Fence.wide k Try.prog 45 #[.pointer (some ⟨bh, 0, none⟩)] (fun x : Fin h.length => ixV h x) (KpL w0.heap.size bh V.heap.size) (fun ys => ys = livP h) (fun pre => pre <+: livP h) h.length (V.heap.size + 1 + 1 + 1 + 1) l V :=
  fun J Jx hJ hJx hY h0 => living8_in h w0 a cap hT hG hn bh k l V (hW.trans (hV.mono hW.size)) (boxed_below7 hbox hV) J Jx hJ hJx hY h0
end Go.Proofs.Ytpmcmohdhicfcaa
