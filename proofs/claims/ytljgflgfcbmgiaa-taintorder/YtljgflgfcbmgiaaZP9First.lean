/-
  What taint.First answers.
-/
import Derived.Test.YtljgflgfcbmgiaaZP9Iter
import Derived.Test.YtljgflgfcbmgiaaZP9C
import Derived.Lib.Hide
namespace Go.Proofs.Ytljgflgfcbmgiaa
set_option maxRecDepth 100000
open Go.RowKit Go.Shelf
set_option linter.unusedVariables false
attribute [local go_sem] Oper.semAt_some ba_size
theorem results_row_cell {P : Program} {fn : Func} {p q : Tmp} {ty t2 : TypeId} (h : fn.results = #[.cell p ty, .cell q t2]) (tmps : Array Value) (w : World) (g : Nat) (t : TypeId) (cs : Array Value) (fr : Nat × Nat) (d : TypeDesc)
    (hp : tmps.getD p undef = .pointer (some ⟨g, 0, none⟩)) (hg : w.heap[g]? = some (.cells cs t fr))
    (hu : P.underlying ty = some d) (hd : (match d with | .struct _ | .array _ _ => true | _ => false) = true) (hi : (P.info? ty).map (·.size) = some cs.size)
    (v : Value) (hv : ((asAddr (tmps.getD q undef)).run P w).andThen (fun a w₁ => ((loadVar t2 a).run P w₁)) = Result.ok v w) :
    (results fn tmps).run P w = .ok (.tuple #[.agg cs, v]) w := by
  have hp' : tmps[p]?.getD undef = .pointer (some ⟨g, 0, none⟩) := by simpa using hp
  have hv' : ((asAddr (tmps[q]?.getD undef)).run P w).andThen (fun a w₁ => ((loadVar t2 a).run P w₁)) = Result.ok v w := by simpa using hv
  cases hq : (asAddr (tmps[q]?.getD undef)).run P w with
  | ok b w2 =>
    rw [hq] at hv'
    simp only [Result.andThen] at hv'
    simp [results, h, hp', asAddr, run_loadVar_row w g t ty cs fr d hg hu hd hi]
    simp only [asAddr] at hq
    simp [hq, hv']
  | _ => rw [hq] at hv'; simp [Result.andThen] at hv'
structure TSt (w : World) (x : Bd) (th : Bool) (sl : Value) (W : World) : Prop where
  below : Below w.heap.size w W
  size : w.heap.size + 1 + 1 + 1 ≤ W.heap.size
  r1 : SBox W (w.heap.size) 29 #[.int .i64 x.1, .int .i64 x.2.1, .int .i64 x.2.2]
  r2 : Boxed W (w.heap.size + 1) 4 (.bool th)
  be : Boxed W (w.heap.size + 1 + 1) 22 (sl)
theorem TSt.bel {w : World} {x : Bd} {th : Bool} {sl : Value} {W W' : World} (h : TSt w x th sl W) (hb : Below (w.heap.size + 1 + 1 + 1) W W') : TSt w x th sl W' :=
  ⟨h.below.trans (hb.mono (by omega)), Nat.le_trans h.size hb.size, sbox_bel h.r1 hb (by omega), boxed_bel h.r2 hb (by omega), boxed_bel h.be hb (by omega)⟩
theorem TSt.put {w : World} {x : Bd} {th : Bool} {sl : Value} {W : World} (h : TSt w x th sl W) (y : Bd) (b : Bool) : TSt w y b sl ((((W.setCell ⟨w.heap.size, 0, none⟩ (.int .i64 y.1)).setCell ⟨w.heap.size, 1, none⟩ (.int .i64 y.2.1)).setCell ⟨w.heap.size, 2, none⟩ (.int .i64 y.2.2)).setCell ⟨w.heap.size + 1, 0, none⟩ (.bool b)) := by
  have o : ∀ c, c ≠ w.heap.size → c ≠ w.heap.size + 1 → ((((W.setCell ⟨w.heap.size, 0, none⟩ (.int .i64 y.1)).setCell ⟨w.heap.size, 1, none⟩ (.int .i64 y.2.1)).setCell ⟨w.heap.size, 2, none⟩ (.int .i64 y.2.2)).setCell ⟨w.heap.size + 1, 0, none⟩ (.bool b)).heap[c]? = W.heap[c]? := fun c h3 h4 => by
    rw [Below.heap_setCell _ _ _ c h4, Below.heap_setCell _ _ _ c h3, Below.heap_setCell _ _ _ c h3, Below.heap_setCell _ _ _ c h3]
  have h4 : Boxed (((W.setCell ⟨w.heap.size, 0, none⟩ (.int .i64 y.1)).setCell ⟨w.heap.size, 1, none⟩ (.int .i64 y.2.1)).setCell ⟨w.heap.size, 2, none⟩ (.int .i64 y.2.2)) (w.heap.size + 1) 4 (.bool th) := by
    show _ = _
    rw [Below.heap_setCell _ _ _ _ (by simp), Below.heap_setCell _ _ _ _ (by simp), Below.heap_setCell _ _ _ _ (by simp)]
    exact h.r2
  exact ⟨(bel_put3 h.below (Nat.le_refl _) _ _ _).setCell (p := ⟨w.heap.size + 1, 0, none⟩) (by simp) _, by simp; exact h.size, (h.r1.put3 (.int .i64 y.1) (.int .i64 y.2.1) (.int .i64 y.2.2)).other (w.heap.size + 1) 0 (.bool b) (by omega), h4.set _, (o _ (by omega) (by omega)).trans h.be⟩
def TInv (w : World) (sl : Value) (pre : List Bd) (W : World) : Prop := pre = [] ∧ TSt w (0, 0, 0) false sl W
def TOut (w : World) (sl : Value) (c : Code) (pre : List Bd) (W : World) : Prop := c = .ret ∧ ∃ x, pre = [x] ∧ TSt w x true sl W
theorem first_pre (h : List Ev) (x : Bd) (hp : [x] <+: badsL h) : firstP h = (x, true) := by
  obtain ⟨r, hr⟩ := hp
  unfold firstP
  rw [← hr]
  rfl
set_option maxHeartbeats 2000000 in
theorem pfirst9_any (h : List Ev) (v : Value) (w : World) (hT : IsEvs w v h) :
    Calls Try.prog 14 #[v] w fun e w' => e = .returned (.tuple #[badA (firstP h).1, .bool (firstP h).2]) ∧ Below w.heap.size w w' := by
  have hT0 := hT
  obtain ⟨a, cap, rfl, h1, h2, h3, HC⟩ := hT.some_at
  clear HC hT
  refine (callsIn_wide (n := 3)).1 ?_
  refine callsIn_of_wp_marks Try.func14 rfl trivial ?_ rfl
  simp only [Try.ntmps14, List.size_toArray, List.length_cons, List.length_nil, Nat.reduceAdd, Nat.reduceSub, Array.replicate_succ, Array.replicate_zero, List.push_toArray, List.append_toArray, List.nil_append, List.cons_append]
  gi_wp2_with ((try refine ⟨trivial, ?_⟩); gi_at_call 23; refine (callsIn_wide.2 (pbads9_any _ _ _ _)).mono ?_; rintro e w2 ⟨rfl, rfl⟩)
  have hS0 : TSt w (0, 0, 0) false (.slice a h.length cap) (((w.alloc (.cells #[.int .i64 0, .int .i64 0, .int .i64 0] 29)).alloc (.cells #[.bool false] 4)).alloc (.cells #[.slice a h.length cap] 22)) := by
    have b0 := (((SBox.new w 29 #[.int .i64 0, .int .i64 0, .int .i64 0]).alloc (.cells #[.bool false] 4)).alloc (.cells #[.slice a h.length cap] 22))
    have b1 := ((Boxed.new (w.alloc (.cells #[.int .i64 0, .int .i64 0, .int .i64 0] 29)) 4 (.bool false)).alloc (.cells #[.slice a h.length cap] 22))
    have b2 := (Boxed.new ((w.alloc (.cells #[.int .i64 0, .int .i64 0, .int .i64 0] 29)).alloc (.cells #[.bool false] 4)) 22 (.slice a h.length cap))
    (try simp only [World.size_alloc] at b0 b1 b2)
    exact ⟨((((Below.refl _ w).alloc (by first | exact Nat.le_refl _ | (simp only [World.size_alloc]; omega)) _).alloc (by first | exact Nat.le_refl _ | (simp only [World.size_alloc]; omega)) _).alloc (by first | exact Nat.le_refl _ | (simp only [World.size_alloc]; omega)) _), (by simp), b0, b1, b2⟩
  obtain ⟨W0, hW0⟩ : ∃ W0, (((w.alloc (.cells #[.int .i64 0, .int .i64 0, .int .i64 0] 29)).alloc (.cells #[.bool false] 4)).alloc (.cells #[.slice a h.length cap] 22)) = W0 := ⟨_, rfl⟩
  have sW0 : W0.heap.size = w.heap.size + 1 + 1 + 1 := by rw [← hW0]; simp
  change Code.wpIn _ _ _ _ _ _ (((w.alloc (.cells #[.int .i64 0, .int .i64 0, .int .i64 0] 29)).alloc (.cells #[.bool false] 4)).alloc (.cells #[.slice a h.length cap] 22))
  rw [hW0] at hS0 ⊢
  clear hW0
  (try refine wpIn_block ?_)
  refine wpIn_rangeFunc_ownH rfl (by omega) (gf := 33) (lb := #[.pointer (some ⟨w.heap.size + 1 + 1, 0, none⟩)]) rfl trivial (enters_of Try.func33 (by kernel_rfl) rfl)
    (bads9_stops h w a cap hT0 (w.heap.size + 1 + 1) (3 - 1) W0 hS0.below hS0.be) (fun h k => kpE_t h k) (kpE_b (by omega) (by omega)) (Below.refl _ _) (fun _ => rfl)
    (TInv w (.slice a h.length cap)) (TOut w (.slice a h.length cap))
    (ownFrom_of_below (fun _ W ⟨_, h1⟩ => by rw [sW0]; exact h1.size) (fun _ W W' ⟨e, h1⟩ hb => ⟨e, h1.bel (by rw [sW0] at hb; exact hb)⟩))
    (fun c => ownFrom_of_below (fun _ W ⟨_, x, _, h2⟩ => by rw [sW0]; exact h2.size) (fun _ W W' ⟨h1, x, h2, h3⟩ hb => ⟨h1, x, h2, h3.bel (by rw [sW0] at hb; exact hb)⟩))
    ⟨rfl, hS0⟩
    (fun x a' W => ∃ Bx, w.heap.size + 1 + 1 < Bx ∧ SBox W Bx 29 #[.int .i64 x.1, .int .i64 x.2.1, .int .i64 x.2.2] ∧ a' = { tmps := #[.slice a h.length cap, undef, .pointer (some ⟨w.heap.size, 0, none⟩), .pointer (some ⟨w.heap.size + 1, 0, none⟩), .pointer (some ⟨Bx, 0, none⟩), .slice a h.length cap, badsF9 (w.heap.size + 1 + 1), badA x, undef, undef], defers := [] })
    (fun x a' _ A B row hs hg hr => by
      obtain ⟨Bx, h1, h2, h4⟩ := hs
      exact ⟨Bx, h1, block_kept h2 hg (fun r e => (hr r e).2), h4⟩)
    ?assign ?body ?done ?stop
  case assign =>
    rintro l pre x W K ⟨hp, hS⟩ hK
    have hsz := hS.size
    gi_wp2
    refine hK _ _ ((KeepsOthers.alloc _ _).from _) ⟨(Below.refl _ W).alloc (by omega) _, Below.heap_alloc W _ _ (by omega)⟩ ⟨hp, hS.bel ((Below.refl _ W).alloc hsz _)⟩ ⟨W.heap.size, by omega, SBox.new W _ _, rfl⟩
  case body =>
    rintro l pre x a' W hl hrec ⟨rfl, hS⟩ ⟨Bx, hBx, hblk, rfl⟩ hlt
    clear sW0 hS0 hl hrec
    have hsz := hS.size
    obtain ⟨x0, x1, x2⟩ := x
    have q0 := hblk.cell 0 _ rfl
    have q1 := hblk.cell 1 _ rfl
    have q2 := hblk.cell 2 _ rfl
    have c0 := hS.r1.cell 0 _ rfl
    have c1 := hS.r1.cell 1 _ rfl
    have c2 := hS.r1.cell 2 _ rfl
    have g0 := hS.r1.frozen 0
    have g1 := hS.r1.frozen 1
    have g2 := hS.r1.frozen 2
    have k0 := hS.r2.cell
    have k1 := hS.r2.frozen
    have HF : Hid (KeepsFrom W0.heap.size W ((((W.setCell ⟨w.heap.size, 0, none⟩ (.int .i64 x0)).setCell ⟨w.heap.size, 1, none⟩ (.int .i64 x1)).setCell ⟨w.heap.size, 2, none⟩ (.int .i64 x2)).setCell ⟨w.heap.size + 1, 0, none⟩ (.bool true)) ∧ TOut w (.slice a h.length cap) .ret ([] ++ [(x0, x1, x2)]) ((((W.setCell ⟨w.heap.size, 0, none⟩ (.int .i64 x0)).setCell ⟨w.heap.size, 1, none⟩ (.int .i64 x1)).setCell ⟨w.heap.size, 2, none⟩ (.int .i64 x2)).setCell ⟨w.heap.size + 1, 0, none⟩ (.bool true))) :=
      ⟨((((KeepsOthers.setCell _ _ _).trans (KeepsOthers.setCell _ _ _)).trans (KeepsOthers.setCell _ _ _)).trans (KeepsOthers.setCell _ _ _)).from _, rfl, (x0, x1, x2), rfl, hS.put (x0, x1, x2) true⟩
    simp only at q0 q1 q2
    clear hS hblk
    gi_wp2
    exact HF.out
  case done =>
    rintro D ys W hD hys ⟨rfl, hS⟩ hK
    have HE : Hid (firstP h = ((0, 0, 0), false)) := by show _ = _; unfold firstP; rw [← hys]
    have HD : Hid (w.heap.size + 1 + 1 + 1 ≤ D) := by rw [sW0] at hD; exact hD
    clear sW0 hS0 hD hys
    have c0 := hS.r1.cell 0 _ rfl
    have c1 := hS.r1.cell 1 _ rfl
    have c2 := hS.r1.cell 2 _ rfl
    have g0 := hS.r1.frozen 0
    have g1 := hS.r1.frozen 1
    have g2 := hS.r1.frozen 2
    have k0 := hS.r2.cell
    have k1 := hS.r2.frozen
    have hS2 := hS.put (0, 0, 0) false
    have HS2 := Lib.hid hS2
    have HK : Hid (((((W.setCell ⟨w.heap.size, 0, none⟩ (.int .i64 0)).setCell ⟨w.heap.size, 1, none⟩ (.int .i64 0)).setCell ⟨w.heap.size, 2, none⟩ (.int .i64 0)).setCell ⟨w.heap.size + 1, 0, none⟩ (.bool false)).heap[D]? = some (.deferred (some []))) := ((((KeepsOthers.setCell W _ _).trans (KeepsOthers.setCell _ _ _)).trans (KeepsOthers.setCell _ _ _)).trans (KeepsOthers.setCell _ _ _)).same D _ hK rfl
    clear hS2
    gi_wp2
    have hK' := HK.out
    have hS2 := HS2.out
    refine ⟨by simp, .inl ⟨_, _, rfl, run_takeDeferred hK', ?_⟩⟩
    have d1 := cell_kept hS2.r2.cell (grownBy_putObj' _ D (.deferred none)) (fun r e => by cases e; exact ⟨_, hK', rfl⟩)
    refine ⟨.tuple #[badA (0, 0, 0), .bool false], results_row_cell Try.results14 _ _ w.heap.size 29 _ (0, 0) _ rfl (block_kept hS2.r1 (grownBy_putObj' _ D (.deferred none)) (fun r e => by cases e; exact ⟨_, hK', rfl⟩)) Try.underlying29 rfl size_bad _ (by simp [go_sem, d1]), by rw [HE.out], hS2.below.trans (belowK_b (w := w) (Nat.le_refl _) _ D _ _ (by have := HD.out; omega) hK' rfl rfl)⟩
  case stop =>
    rintro D c pre W hD hSp ⟨rfl, x, rfl, hS⟩ hK
    have HE : Hid (firstP h = (x, true)) := first_pre h x hSp
    have HD : Hid (w.heap.size + 1 + 1 + 1 ≤ D) := by rw [sW0] at hD; exact hD
    clear sW0 hS0 hD hSp
    gi_wp2
    refine ⟨by simp, .inl ⟨_, _, rfl, run_takeDeferred hK, ?_⟩⟩
    have d1 := cell_kept hS.r2.cell (grownBy_putObj' _ D (.deferred none)) (fun r e => by cases e; exact ⟨_, hK, rfl⟩)
    refine ⟨.tuple #[badA x, .bool true], results_row_cell Try.results14 _ _ w.heap.size 29 _ (0, 0) _ rfl (block_kept hS.r1 (grownBy_putObj' _ D (.deferred none)) (fun r e => by cases e; exact ⟨_, hK, rfl⟩)) Try.underlying29 rfl size_bad _ (by simp [go_sem, d1]), by rw [HE.out], hS.below.trans (belowK_b (w := w) (Nat.le_refl _) _ D _ _ (by have := HD.out; omega) hK rfl rfl)⟩
end Go.Proofs.Ytljgflgfcbmgiaa
