/-
  What taint.All answers, by the library's Collect and AppendSeq.
-/
import Derived.Test.YtljgflgfcbmgiaaZP9Iter
import Derived.Test.YtljgflgfcbmgiaaGD
import Derived.Lib.Hide
namespace Go.Proofs.Ytljgflgfcbmgiaa
set_option maxRecDepth 100000
open Go.RowKit Go.Shelf Go.Maps
set_option linter.unusedVariables false
attribute [local go_sem] Oper.semAt_some ba_size
structure ASt (w : World) (v : Value) (n : Nat) (xs : List Value) (W : World) : Prop where
  below : Below w.heap.size w W
  size : w.heap.size + 1 ≤ W.heap.size
  bv : Boxed W (w.heap.size) 25 v
  row : W.ownsRow w.heap.size 29 3 v n xs
  far : ∀ g, v.ownBlock = some g → w.heap.size + 1 ≤ g
theorem ASt.turn {w : World} {v : Value} {n : Nat} {xs : List Value} {W W' : World} {row : Option Nat} (h : ASt w v n xs W) (hg : W.grownBy W' row) (hr : ∀ r, row = some r → w.heap.size + 1 ≤ r ∧ ∃ o : Obj, W.heap[r]? = some o ∧ o.isCells = false) : ASt w v n xs W' :=
  ⟨h.below.grown hg (by have := h.size; omega) (fun r e => by have := (hr r e).1; omega), Nat.le_trans h.size hg.size, h.bv.kept hg (fun e => by have := (hr _ e.symm).1; omega), owns_turn h.row hg (fun r e => (hr r e).2), h.far⟩
theorem ASt.bel {w : World} {v : Value} {n : Nat} {xs : List Value} {W W' : World} (h : ASt w v n xs W) (hb : Below W.heap.size W W') : ASt w v n xs W' := h.turn (grown_below8 none hb) (fun r e => by cases e)
theorem ASt.app {w : World} {v v' : Value} {n n' : Nat} {xs ys : List Value} {W W' : World} {tmp : Obj} (h : ASt w v n xs W) (hown : W'.ownsRow w.heap.size 29 3 v' n' ys) (hg : (W.alloc tmp).grownBy W' v.ownBlock) (hat : v'.ownBlock = v.ownBlock ∨ v'.ownBlock = some (W.heap.size + 1)) :
    ASt w v' n' ys (W'.setCell ⟨w.heap.size, 0, none⟩ v') := by
  have hs := h.size
  have hfar : ∀ g, v'.ownBlock = some g → w.heap.size + 1 ≤ g := fun g hv => by
    rcases hat with e | e
    · exact h.far g (by rw [← e]; exact hv)
    · rw [hv] at e
      have := Option.some.inj e
      omega
  have hsz := hg.size
  rw [World.size_alloc] at hsz
  have hb : Below w.heap.size w W' := (h.below.alloc h.below.size _).grown hg (by simp; omega) (fun r e => by have := h.far r e; omega)
  exact ⟨hb.setCell (p := ⟨w.heap.size, 0, none⟩) (Nat.le_refl _) _, by simp; omega, ((h.bv.alloc _).kept hg (fun e => by have := h.far _ e.symm; omega)).set _, owns_keep7 (g := w.heap.size) (j := 0) hown _ (fun e => by have := hfar _ e.symm; omega), hfar⟩
def AInv (w : World) (pre : List Bd) (W : World) : Prop := ∃ v, ASt w v pre.length (recV badV pre) W
theorem ownsRow_succ9 {w : World} {B e k n : Nat} {v : Value} {xs : List Value} (h : w.ownsRow B e k v (n + 1) xs) : ∃ g cap, v = .slice (some ⟨g, 0, none⟩) (n + 1) cap := by
  rcases h.2 with ⟨_, h0⟩ | ⟨g, cap, cur, rfl, _⟩
  · omega
  · exact ⟨g, cap, rfl⟩
set_option maxHeartbeats 4000000 in
theorem pappend9_any (h : List Ev) (w0 w : World) (a : Option Addr) (cap : Nat) (hT : IsEvs w0 (.slice a h.length cap) h) (hn : h.length ≤ 300) (hw : Below w0.heap.size w0 w) (bh : Nat) (hbox : Boxed w bh 22 (.slice a h.length cap)) :
    Calls Try.prog 32 #[.slice none 0 0, badsF9 bh] w fun e w' => BdRow 29 w (badsL h) e w' := by
  obtain ⟨i0, hi, hz0, hz1, hz2⟩ := info_parts bad_info
  have hbl := hbox.lt
  refine (callsIn_wide (n := 3)).1 ?_
  refine callsIn_of_wp_marks Try.func32 rfl trivial ?_ rfl
  simp only [Try.ntmps32, List.size_toArray, List.length_cons, List.length_nil, Nat.reduceAdd, Nat.reduceSub, Array.replicate_succ, Array.replicate_zero, List.push_toArray, List.append_toArray, List.nil_append, List.cons_append]
  gi_wp2
  have hS0 : ASt w (.slice none 0 0) 0 [] (w.alloc (.cells #[.slice none 0 0] 25)) :=
    ⟨(Below.refl _ w).alloc (Nat.le_refl _) _, by simp, Boxed.new w _ _, World.ownsRow_nil _ _ _ _, fun g hg => by simp [Value.ownBlock] at hg⟩
  have hbox0 := hbox.alloc (.cells #[.slice none 0 0] 25)
  obtain ⟨W0, hW0⟩ : ∃ W0, w.alloc (.cells #[.slice none 0 0] 25) = W0 := ⟨_, rfl⟩
  have sW0 : W0.heap.size = w.heap.size + 1 := by rw [← hW0]; simp
  change Code.wpIn _ _ _ _ _ _ (w.alloc (.cells #[.slice none 0 0] 25))
  rw [hW0] at hS0 hbox0 ⊢
  clear hW0
  have hws := hw.size
  refine wpIn_rangeFunc_ownH rfl (by omega) (gf := 33) (lb := #[.pointer (some ⟨bh, 0, none⟩)]) rfl trivial (enters_of Try.func33 (by kernel_rfl) rfl)
    (bads9_stops h w0 a cap hT bh (3 - 1) W0 (hw.trans (hS0.below.mono hws)) hbox0) (fun h k => kpE_t h k) (kpE_b (by omega) (by omega)) (Below.refl _ _) (fun _ => rfl)
    (AInv w) (fun _ _ _ => False)
    (fun s X Y row ⟨v, hs⟩ hg hr => ⟨v, hs.turn hg (fun r e => ⟨by have := (hr r e).1; omega, (hr r e).2⟩)⟩)
    (fun _ => ownFrom_false _)
    ⟨_, hS0⟩
    (fun x a' W => ∃ Bx, w.heap.size < Bx ∧ SBox W Bx 29 #[.int .i64 x.1, .int .i64 x.2.1, .int .i64 x.2.2] ∧ a' = { tmps := #[.slice none 0 0, badsF9 bh, .pointer (some ⟨w.heap.size, 0, none⟩), undef, .slice none 0 0, .pointer (some ⟨Bx, 0, none⟩), badsF9 bh, badA x, undef, undef, undef, undef, undef], defers := [] })
    (fun x a' _ A B row hs hg hr => by
      obtain ⟨Bx, h1, h2, h4⟩ := hs
      exact ⟨Bx, h1, block_kept h2 hg (fun r e => (hr r e).2), h4⟩)
    ?assign ?body ?done ?stop
  case assign =>
    rintro l pre x W K ⟨v, hS⟩ hK
    have hsz := hS.size
    have b1 := (Below.refl W.heap.size W).alloc (Nat.le_refl _) (.cells #[.int .i64 x.1, .int .i64 x.2.1, .int .i64 x.2.2] 29)
    gi_wp2
    refine hK _ _ ((KeepsOthers.alloc _ _).from _) ⟨b1.mono (by omega), Below.heap_alloc W _ _ (by omega)⟩ ⟨v, hS.bel b1⟩ ⟨W.heap.size, by omega, SBox.new W _ _, rfl⟩
  case body =>
    rintro l pre x a' W hl hrec ⟨v, hS⟩ ⟨Bx, hBx, hblk, rfl⟩ hlt
    have HW0 : Hid (W0.heap.size = w.heap.size + 1) := sW0
    clear sW0 hS0 hl hrec
    have hsz := hS.size
    obtain ⟨x0, x1, x2⟩ := x
    simp only at hblk
    have q0 := hblk.cell 0 _ rfl
    have q1 := hblk.cell 1 _ rfl
    have q2 := hblk.cell 2 _ rfl
    have cv := hS.bv.cell
    have hrow := hS.row
    gi_wp2_with (gi_at_builtin; refine wpListIn_append_own_at _ rfl _ _ 25 rfl w.heap.size 29 i0 (.agg #[.int .i64 0, .int .i64 0, .int .i64 0]) 3 24 Try.underlying25 hi hz0 hz1 hz2 rfl (by decide) _ _ _ rfl (hrow.alloc _) ⟨W.heap.size, 0, none⟩ 1 1 [.int .i64 x0, .int .i64 x1, .int .i64 x2] rfl rfl ?a1 ?a2 ?a3 ?a4 ?a5 ?_)
    case a1 => intro j u hj; match j, hj with
      | 0, hj => simp at hj; subst hj; simp [Addr.add]
      | 1, hj => simp at hj; subst hj; simp [Addr.add]
      | 2, hj => simp at hj; subst hj; simp [Addr.add]
    case a2 => intro u hu; simp at hu; rcases hu with rfl | rfl | rfl <;> rfl
    case a3 => unfold maxLen; omega
    case a4 => omega
    case a5 => simp; omega
    intro v' W2 hown2 hg2 _ hat2
    obtain ⟨g', cap', rfl⟩ := ownsRow_succ9 hown2
    have hS2 := hS.app hown2 hg2 (by simpa using hat2)
    have bv2 := (hS.bv.alloc (.cells #[.int .i64 x0, .int .i64 x1, .int .i64 x2] 29)).kept hg2 (fun e => by have := hS.far _ e.symm; omega)
    have cv2 := bv2.cell
    have gv2 := bv2.frozen
    have KK := (((KeepsOthers.alloc W (.cells #[.int .i64 x0, .int .i64 x1, .int .i64 x2] 29)).from W0.heap.size).trans ((keeps_row (hrow.alloc (.cells #[.int .i64 x0, .int .i64 x1, .int .i64 x2] 29)) hg2).from _)).trans ((KeepsOthers.setCell W2 ⟨w.heap.size, 0, none⟩ (.slice (some ⟨g', 0, none⟩) (pre.length + 1) cap')).from _)
    have z2 := hg2.size
    rw [World.size_alloc] at z2
    have KP : KpE w0.heap.size bh W (W2.setCell ⟨w.heap.size, 0, none⟩ (.slice (some ⟨g', 0, none⟩) (pre.length + 1) cap')) :=
      ⟨((((Below.refl w0.heap.size W).alloc (by omega) (.cells #[.int .i64 x0, .int .i64 x1, .int .i64 x2] 29)).grown hg2 (by simp; omega) (fun r e => by have := hS.far r e; omega)).setCell (p := ⟨w.heap.size, 0, none⟩) hws _), (Below.heap_setCell _ _ _ _ (by simp; omega)).trans ((hg2.block bh (by simp; omega) (fun e => by have := hS.far _ e.symm; omega)).trans (Below.heap_alloc W _ _ (by omega)))⟩
    have HF : Hid (KeepsFrom W0.heap.size W (W2.setCell ⟨w.heap.size, 0, none⟩ (.slice (some ⟨g', 0, none⟩) (pre.length + 1) cap')) ∧ KpE w0.heap.size bh W (W2.setCell ⟨w.heap.size, 0, none⟩ (.slice (some ⟨g', 0, none⟩) (pre.length + 1) cap')) ∧ AInv w (pre ++ [(x0, x1, x2)]) (W2.setCell ⟨w.heap.size, 0, none⟩ (.slice (some ⟨g', 0, none⟩) (pre.length + 1) cap'))) := by
      refine ⟨KK, KP, .slice (some ⟨g', 0, none⟩) (pre.length + 1) cap', ?_⟩
      rw [recV_snoc, List.length_append]
      exact hS2
    clear hS hS2 hown2 KK KP hrow hblk hat2
    gi_wp2
    exact HF.out
  case done =>
    rintro D ys W hD rfl ⟨v, hS⟩ hK
    have c1 := hS.bv.cell
    have HD : Hid (w.heap.size + 1 ≤ D) := by rw [sW0] at hD; exact hD
    clear sW0 hS0 hD
    gi_wp2
    refine ⟨by simp, .inl ⟨_, _, rfl, run_takeDeferred hK, ?_⟩⟩
    exact ⟨_, results_tmp rfl _ _ _, _, rfl, hS.below.trans (belowK_b (w := w) (Nat.le_refl _) _ D _ _ (by have := HD.out; omega) hK rfl rfl), ownsRow_putObj hS.row _ hK rfl⟩
  case stop =>
    rintro D c pre W hD hSp h hK
    exact h.elim
theorem pcollect9_any (h : List Ev) (w0 w : World) (a : Option Addr) (cap : Nat) (hT : IsEvs w0 (.slice a h.length cap) h) (hn : h.length ≤ 300) (hw : Below w0.heap.size w0 w) (bh : Nat) (hbox : Boxed w bh 22 (.slice a h.length cap)) :
    Calls Try.prog 22 #[badsF9 bh] w fun e w' => BdRow 29 w (badsL h) e w' := by
  have C := pappend9_any h w0 w a cap hT hn hw bh hbox
  clear hbox hT
  go_enter Try.func22, Try.ntmps22
  go_wp2_with fail
  refine C.mono ?_
  rintro e w1 ⟨v, rfl, b1, hr⟩
  go_wp2_with fail
  go_ret
  exact ⟨v, rfl, b1, hr⟩
theorem pall9_any (h : List Ev) (v : Value) (w : World) (hT : IsEvs w v h) (hn : h.length ≤ 300) :
    Calls Try.prog 13 #[v] w fun e w' => BdRow 29 w (badsL h) e w' := by
  have hT0 := hT
  obtain ⟨a, cap, rfl, h1, h2, h3, HC⟩ := hT.some_at
  have B := (Below.refl w.heap.size w).alloc (Nat.le_refl _) (.cells #[.slice a h.length cap] 22)
  have C := pcollect9_any h w (w.alloc (.cells #[.slice a h.length cap] 22)) a cap hT0 hn B w.heap.size (Boxed.new w _ _)
  clear HC hT hT0
  go_enter Try.func13, Try.ntmps13
  go_wp2_with fail
  refine (pbads9_any _ _ _ _).mono ?_
  rintro e w2 ⟨rfl, rfl⟩
  go_wp2_with fail
  refine C.mono ?_
  rintro e w1 ⟨v, rfl, b1, hr⟩
  go_wp2_with fail
  go_ret
  exact ⟨v, rfl, B.trans (b1.mono (by simp)), owns_low hr (by simp)⟩
end Go.Proofs.Ytljgflgfcbmgiaa
