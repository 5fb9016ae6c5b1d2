/-
  What history.ends, writes and the two predicates answer.
  What history.events hands to a loop, whatever is done with it.
  What history.first answers for its two predicates; Writer, written.
  What history.Writer, written and Last answer.
  What history.living hands to a loop, whatever is done with it.
  What loops over the living events keep: a value's box, a row's box and the row, a map of numbers, the slice's box.
-/
import Derived.Test.YteehpkkkagdckaaProg
import Derived.Test.YteehpkkkagdckaaGD
import Derived.RangeFuncNested
import Derived.RangeFuncBound
import Derived.RangeFuncCalls
import Derived.RangeFuncLeaves
import Derived.RangeFuncBox
import Derived.Shelf.Abstract
import Derived.Shelf.RegionOpen
import Derived.OwnWalkIn
import Derived.TacticsInMore
import Derived.LoopNIn
import Derived.LoopIn
import Derived.Test.YteehpkkkagdckaaGC
import Derived.Lib.Hide
import Derived.Test.YteehpkkkagdckaaGE
import Derived.Test.YteehpkkkagdckaaGA
namespace Go.Proofs.Yteehpkkkagdckaa
set_option maxRecDepth 100000
open Go.RowKit
set_option linter.unusedVariables false
attribute [local go_sem] ba_size
theorem pends_any (y0 y1 : Int) (y2 y3 : List UInt8) (w : World) :
    Calls Try.prog 56 #[.agg #[.int .i64 y0, .int .i64 y1, .string ⟨y2.toArray⟩, .string ⟨y3.toArray⟩]] w fun e w' => e = .returned (.bool (decide (y0 = 4 ∨ y0 = 5))) ∧ Below w.heap.size w w' := by
  have B := fun o => (Below.refl w.heap.size w).alloc (Nat.le_refl _) o
  by_cases d4 : y0 = 4
  · have e4 : (y0 == 4) = true := by rw [d4]; rfl
    rw [decide_eq_true (show _ ∨ _ from Or.inl d4)]
    clear d4
    go_enter Try.func56, Try.ntmps56
    go_wp2_with fail
    go_ret
    exact ⟨rfl, B _⟩
  · have e4 : (y0 == 4) = false := beq_eq_false_iff_ne.2 d4
    by_cases d5 : y0 = 5
    · have e5 : (y0 == 5) = true := by rw [d5]; rfl
      rw [decide_eq_true (show _ ∨ _ from Or.inr d5)]
      clear d4 d5
      go_enter Try.func56, Try.ntmps56
      go_wp2_with fail
      go_ret
      exact ⟨rfl, B _⟩
    · have e5 : (y0 == 5) = false := beq_eq_false_iff_ne.2 d5
      rw [decide_eq_false (show ¬ (_ ∨ _) from fun h => h.elim d4 d5)]
      clear d4 d5
      go_enter Try.func56, Try.ntmps56
      go_wp2_with fail
      go_ret
      exact ⟨rfl, B _⟩
theorem pwrites_any (y0 y1 : Int) (y2 y3 key : List UInt8) (w : World) :
    Calls Try.prog 65 #[.agg #[.int .i64 y0, .int .i64 y1, .string ⟨y2.toArray⟩, .string ⟨y3.toArray⟩], .string ⟨key.toArray⟩] w fun e w' => e = .returned (.bool (decide (y0 = 3 ∧ y2 = key))) ∧ Below w.heap.size w w' := by
  have B := fun o => (Below.refl w.heap.size w).alloc (Nat.le_refl _) o
  by_cases d3 : y0 = 3
  · have e3 : (y0 == 3) = true := by rw [d3]; rfl
    by_cases dk : y2 = key
    · have ek : (y2 == key) = true := by rw [dk]; exact beq_self_eq_true _
      rw [decide_eq_true (show _ ∧ _ from ⟨d3, dk⟩)]
      clear d3 dk
      go_enter Try.func65, Try.ntmps65
      go_wp2_with fail
      go_ret
      exact ⟨rfl, B _⟩
    · have ek : (y2 == key) = false := beq_eq_false_iff_ne.2 dk
      rw [decide_eq_false (show ¬ (_ ∧ _) from fun h => dk h.2)]
      clear d3 dk
      go_enter Try.func65, Try.ntmps65
      go_wp2_with fail
      go_ret
      exact ⟨rfl, B _⟩
  · have e3 : (y0 == 3) = false := beq_eq_false_iff_ne.2 d3
    rw [decide_eq_false (show ¬ (_ ∧ _) from fun h => d3 h.1)]
    clear d3
    go_enter Try.func65, Try.ntmps65
    go_wp2_with fail
    go_ret
    exact ⟨rfl, B _⟩
set_option maxHeartbeats 1000000 in
theorem pwriter1_any (y0 y1 : Int) (y2 y3 key val : List UInt8) (bk bv : Nat) (W : World) (Kk : Boxed W bk 9 (.string ⟨key.toArray⟩)) (Kv : Boxed W bv 9 (.string ⟨val.toArray⟩)) :
    Calls Try.prog 83 #[.agg #[.int .i64 y0, .int .i64 y1, .string ⟨y2.toArray⟩, .string ⟨y3.toArray⟩], .pointer (some ⟨bk, 0, none⟩), .pointer (some ⟨bv, 0, none⟩)] W fun e w' => e = .returned (.bool (decide (y0 = 3 ∧ y2 = key ∧ y3 = val))) ∧ Below W.heap.size W w' := by
  have B := fun o => (Below.refl W.heap.size W).alloc (Nat.le_refl _) o
  have C := fun V => pwrites_any y0 y1 y2 y3 key V
  have c0 := (Kk.alloc (.cells #[.int .i64 y0, .int .i64 y1, .string ⟨y2.toArray⟩, .string ⟨y3.toArray⟩] 48)).cell
  by_cases d3 : y0 = 3 ∧ y2 = key
  · rw [decide_eq_true d3] at C
    by_cases dv : y3 = val
    · have ev : (y3 == val) = true := by rw [dv]; exact beq_self_eq_true _
      rw [decide_eq_true (show _ ∧ _ ∧ _ from ⟨d3.1, d3.2, dv⟩)]
      clear d3 dv
      go_enter Try.func83, Try.ntmps83
      go_wp2_with fail
      refine (C _).mono ?_
      rintro e w1 ⟨rfl, b1⟩
      have k2 := boxed_below7 (Kv.alloc (.cells #[.int .i64 y0, .int .i64 y1, .string ⟨y2.toArray⟩, .string ⟨y3.toArray⟩] 48)) b1
      have x3 := (SBox.new W 48 #[.int .i64 y0, .int .i64 y1, .string ⟨y2.toArray⟩, .string ⟨y3.toArray⟩]).below b1
      have v3 := x3.cell 3 _ rfl
      have v2 := k2.cell
      go_wp2_with fail
      go_ret
      exact ⟨rfl, bel_trans (B _) b1⟩
    · have ev : (y3 == val) = false := beq_eq_false_iff_ne.2 dv
      rw [decide_eq_false (show ¬ (_ ∧ _ ∧ _) from fun h => dv h.2.2)]
      clear d3 dv
      go_enter Try.func83, Try.ntmps83
      go_wp2_with fail
      refine (C _).mono ?_
      rintro e w1 ⟨rfl, b1⟩
      have k2 := boxed_below7 (Kv.alloc (.cells #[.int .i64 y0, .int .i64 y1, .string ⟨y2.toArray⟩, .string ⟨y3.toArray⟩] 48)) b1
      have x3 := (SBox.new W 48 #[.int .i64 y0, .int .i64 y1, .string ⟨y2.toArray⟩, .string ⟨y3.toArray⟩]).below b1
      have v3 := x3.cell 3 _ rfl
      have v2 := k2.cell
      go_wp2_with fail
      go_ret
      exact ⟨rfl, bel_trans (B _) b1⟩
  · rw [decide_eq_false d3] at C
    rw [decide_eq_false (show ¬ (_ ∧ _ ∧ _) from fun h => d3 ⟨h.1, h.2.1⟩)]
    clear d3
    go_enter Try.func83, Try.ntmps83
    go_wp2_with fail
    refine (C _).mono ?_
    rintro e w1 ⟨rfl, b1⟩
    have k2 := boxed_below7 (Kv.alloc (.cells #[.int .i64 y0, .int .i64 y1, .string ⟨y2.toArray⟩, .string ⟨y3.toArray⟩] 48)) b1
    have x3 := (SBox.new W 48 #[.int .i64 y0, .int .i64 y1, .string ⟨y2.toArray⟩, .string ⟨y3.toArray⟩]).below b1
    have v3 := x3.cell 3 _ rfl
    have v2 := k2.cell
    go_wp2_with fail
    go_ret
    exact ⟨rfl, bel_trans (B _) b1⟩
end Go.Proofs.Yteehpkkkagdckaa
namespace Go.Proofs.Yteehpkkkagdckaa
set_option maxRecDepth 100000
open Go.RowKit Go.Shelf
set_option linter.unusedVariables false
attribute [local go_sem] Oper.semAt_some
abbrev eventsF8 (b : Nat) : Value := .func (.func 63) #[] #[.pointer (some ⟨b, 0, none⟩)]
theorem pevents8_any (a : Option Addr) (n cap : Nat) (w : World) :
    Calls Try.prog 47 #[.slice a n cap] w fun e w' => e = .returned (eventsF8 w.heap.size) ∧ w' = w.alloc (.cells #[.slice a n cap] 22) := by
  go_enter Try.func47, Try.ntmps47
  go_wp2_with fail
  go_ret
  exact ⟨rfl, rfl⟩
set_option maxHeartbeats 1000000 in
theorem events8_in (l : Nat) (h : List Ev) (w0 : World) (a : Option Addr) (cap : Nat) (hT : IsEvs w0 (.slice a h.length cap) h) (bh k : Nat) (J Jx : List (Fin h.length) → World → Prop)
    (hY : ∀ pre x W, J pre W → pre.length < h.length → YieldAt Fence.wide (k - 1) Try.prog l (ixV h x) W fun e W' => (e = .returned (.bool true) ∧ J (pre ++ [x]) W' ∧ KpE w0.heap.size bh W W') ∨ (e = .returned (.bool false) ∧ Jx (pre ++ [x]) W'))
    (W : World) (hW : Below w0.heap.size w0 W) (hbox : Boxed W bh 22 (.slice a h.length cap)) (h0 : J [] W) :
    CallsIn Fence.wide k Try.prog 63 #[.func (.yield l) #[] #[], .pointer (some ⟨bh, 0, none⟩)] W fun e W' => (∃ v, e = .returned v) ∧
      ((∃ ys, ys = List.finRange h.length ∧ J ys W') ∨ (∃ pre, pre <+: List.finRange h.length ∧ Jx pre W')) := by
  have hdd : ∀ k : Nat, (Fence.wide.depth.isSome = true → 1 ≤ k) := fun k h => by cases h
  obtain ⟨a', cap', e1, h1, h2, h3, HC⟩ := hT.some_at
  obtain ⟨rfl, rfl⟩ : a' = a ∧ cap' = cap := by simpa [eq_comm] using e1
  clear e1 hT
  have c0 := hbox.cell
  refine callsIn_of_wp Try.func63 rfl trivial ?_ rfl
  simp only [Try.ntmps63, List.size_toArray, List.length_cons, List.length_nil, Nat.reduceAdd, Nat.reduceSub, Array.replicate_succ, Array.replicate_zero, List.push_toArray, List.append_toArray, List.nil_append, List.cons_append]
  gi_wp2
  gi_loopw [6] (fun i wr => ∃ k : Nat, k ≤ h.length ∧ i = .int .i64 k ∧ J ((List.finRange h.length).take k) wr ∧ Below w0.heap.size w0 wr ∧ Boxed wr bh 22 (.slice a' h.length cap')) (fun i _ => h.length - (intOf i).toNat)
  case atStart => exact ⟨0, Nat.zero_le _, rfl, h0, hW, hbox⟩
  case round =>
    obtain ⟨k', hk, rfl, hJ, hB, hbx⟩ := hrel
    have c1 := hbx.cell
    by_cases hlt : k' < h.length
    · obtain ⟨bb, off, rfl, hblt, hcell⟩ := HC.out k' hlt
      obtain ⟨p0, p1, p2, p3⟩ := IsEvs.at hlt hcell
      have q0 := (hB.cell (p := ⟨bb, off + k' * 4, none⟩) hblt).trans p0
      have q1 := (hB.cell (p := ⟨bb, off + k' * 4 + 1, none⟩) hblt).trans p1
      have q2 := (hB.cell (p := ⟨bb, off + k' * 4 + 2, none⟩) hblt).trans p2
      have q3 := (hB.cell (p := ⟨bb, off + k' * 4 + 3, none⟩) hblt).trans p3
      have hR0 := hY _ ⟨k', hlt⟩ wr hJ (by rw [List.length_take, List.length_finRange]; omega)
      rw [← fin_take hlt] at hR0
      obtain ⟨⟨x0, x1, x2, x3⟩, hx⟩ : ∃ x, h[k'] = x := ⟨_, rfl⟩
      simp only [ixV, evW, hx] at hR0
      rw [hx] at q0 q1 q2 q3
      obtain ⟨fn, tmps, assign, body, hy, hR⟩ := hR0
      clear p0 p1 p2 p3 hcell hx
      have i0 : (k' : Int) < (h.length : Int) := by omega
      gi_wp2
      refine ⟨hdd _, ?_⟩
      refine hR.mono ?_
      rintro e W3 (⟨rfl, hJ3, hk3⟩ | ⟨rfl, hJx3⟩)
      · have hbx3 : Boxed W3 bh 22 (.slice (some ⟨bb, off, none⟩) h.length cap') := hk3.2.trans hbx
        gi_wp2
        go_roundw
        case rel => exact ⟨k' + 1, by omega, by first | go_num | simp, hJ3, hB.trans hk3.1, hbx3⟩
        case measure => simp [intOf]; omega
      · gi_wp2
        refine bodyPost_ret (results_none rfl _ _ _) rfl ?_
        exact ⟨⟨_, rfl⟩, .inr ⟨_, List.take_prefix _ _, hJx3⟩⟩
    · obtain rfl : k' = h.length := by omega
      have hE : (List.finRange h.length).take h.length = List.finRange h.length := List.take_of_length_le (by rw [List.length_finRange]; exact Nat.le_refl _)
      rw [hE] at hJ
      clear hE
      gi_wp2
      go_end0
      exact ⟨⟨_, rfl⟩, .inl ⟨_, rfl, hJ⟩⟩
theorem events8_stops (h : List Ev) (w0 : World) (a : Option Addr) (cap : Nat) (hT : IsEvs w0 (.slice a h.length cap) h) (bh k : Nat) (w : World) (hW : Below w0.heap.size w0 w) (hbox : Boxed w bh 22 (.slice a h.length cap)) :
    SeqStopsK Fence.wide k Try.prog 63 #[.pointer (some ⟨bh, 0, none⟩)] (fun x : Fin h.length => ixV h x) (KpE w0.heap.size bh) (fun ys => ys = List.finRange h.length) (fun pre => pre <+: List.finRange h.length) h.length w :=
  fun l J Jx W hb _ _ hY h0 => events8_in l h w0 a cap hT bh k J Jx hY W (hW.trans (hb.mono hW.size)) (boxed_below7 hbox hb) h0
end Go.Proofs.Yteehpkkkagdckaa
namespace Go.Proofs.Yteehpkkkagdckaa
set_option maxRecDepth 100000
open Go.RowKit Go.Shelf
set_option linter.unusedVariables false
attribute [local go_sem] Oper.semAt_some ba_size
theorem results_cell1 {fn : Func} {P : Program} {p : Tmp} {t1 : TypeId} (h : fn.results = #[.cell p t1]) (tmps : Array Value) (w : World) (v : Value)
    (hv : ((asAddr (tmps.getD p undef)).run P w).andThen (fun a w₁ => ((loadVar t1 a).run P w₁)) = Result.ok v w) :
    (results fn tmps).run P w = .ok v w := by
  rw [← hv]
  simp only [results, h]
  simp [Sem.run_bind, Result.andThen]
structure FStW (w : World) (bk bv : Nat) (sl : Value) (W : World) : Prop where
  below : Below w.heap.size w W
  size : w.heap.size + 1 + 1 + 1 ≤ W.heap.size
  bs : Boxed W (w.heap.size) 66 ((.func (.func 83) #[] #[.pointer (some ⟨bk, 0, none⟩), .pointer (some ⟨bv, 0, none⟩)]))
  r : Boxed W (w.heap.size + 1) 3 (.int .i64 0)
  be : Boxed W (w.heap.size + 1 + 1) 22 (sl)
theorem FStW.bel {w : World} {bk bv : Nat} {sl : Value} {W W' : World} (h : FStW w bk bv sl W) (hb : Below (w.heap.size + 1 + 1 + 1) W W') : FStW w bk bv sl W' :=
  ⟨h.below.trans (hb.mono (by omega)), Nat.le_trans h.size hb.size, boxed_bel h.bs hb (by omega), boxed_bel h.r hb (by omega), boxed_bel h.be hb (by omega)⟩
def FInvW (w : World) (bk bv : Nat) (sl : Value) (h : List Ev) (p : Nat → Bool) (pre : List (Fin h.length)) (W : World) : Prop :=
  FStW w bk bv sl W ∧ (pre <+: List.finRange h.length → ∀ j, j < pre.length → p j = false)
def FOutW (w : World) (h : List Ev) (p : Nat → Bool) (c : Code) (pre : List (Fin h.length)) (W : World) : Prop :=
  c = .ret ∧ w.heap.size + 1 + 1 + 1 ≤ W.heap.size ∧ Below w.heap.size w W ∧ ∃ i : Nat, Boxed W (w.heap.size + 1) 3 (.int .i64 (i : Int)) ∧ (pre <+: List.finRange h.length → fi p h.length = some i)
set_option maxHeartbeats 2000000 in
theorem pfirstW_any (h : List Ev) (v : Value) (w : World) (hT : IsEvs w v h) (key val : List UInt8) (bk bv : Nat) (Kbk : Boxed w bk 9 (.string ⟨key.toArray⟩)) (Kbv : Boxed w bv 9 (.string ⟨val.toArray⟩)) :
    Calls Try.prog 82 #[v, (.func (.func 83) #[] #[.pointer (some ⟨bk, 0, none⟩), .pointer (some ⟨bv, 0, none⟩)])] w fun e w' => e = .returned (.int .i64 (oI (fi (fun k => decide ((ev h k).1 = 3 ∧ (ev h k).2.2.1 = key ∧ (ev h k).2.2.2 = val)) h.length))) ∧ Below w.heap.size w w' := by
  have hT0 := hT
  obtain ⟨a, cap, rfl, h1, h2, h3, HC⟩ := hT.some_at
  clear HC hT
  obtain ⟨p, hp0⟩ : ∃ p, (fun k => decide ((ev h k).1 = 3 ∧ (ev h k).2.2.1 = key ∧ (ev h k).2.2.2 = val)) = p := ⟨_, rfl⟩
  have HP : Hid (∀ k, p k = decide ((ev h k).1 = 3 ∧ (ev h k).2.2.1 = key ∧ (ev h k).2.2.2 = val)) := fun k => by rw [← hp0]
  rw [hp0]
  clear hp0
  refine (callsIn_wide (n := 3)).1 ?_
  refine callsIn_of_wp_marks Try.func82 rfl trivial ?_ rfl
  simp only [Try.ntmps82, List.size_toArray, List.length_cons, List.length_nil, Nat.reduceAdd, Nat.reduceSub, Array.replicate_succ, Array.replicate_zero, List.push_toArray, List.append_toArray, List.nil_append, List.cons_append]
  gi_wp2_with ((try refine ⟨trivial, ?_⟩); gi_at_call 47; refine (callsIn_wide.2 (pevents8_any _ _ _ _)).mono ?_; rintro e w2 ⟨rfl, rfl⟩)
  have hS0 : FStW w bk bv (.slice a h.length cap) (((w.alloc (.cells #[(.func (.func 83) #[] #[.pointer (some ⟨bk, 0, none⟩), .pointer (some ⟨bv, 0, none⟩)])] 66)).alloc (.cells #[.int .i64 0] 3)).alloc (.cells #[.slice a h.length cap] 22)) := by
    have b0 := (((Boxed.new w 66 ((.func (.func 83) #[] #[.pointer (some ⟨bk, 0, none⟩), .pointer (some ⟨bv, 0, none⟩)]))).alloc (.cells #[.int .i64 0] 3)).alloc (.cells #[.slice a h.length cap] 22))
    have b1 := ((Boxed.new (w.alloc (.cells #[(.func (.func 83) #[] #[.pointer (some ⟨bk, 0, none⟩), .pointer (some ⟨bv, 0, none⟩)])] 66)) 3 (.int .i64 0)).alloc (.cells #[.slice a h.length cap] 22))
    have b2 := (Boxed.new ((w.alloc (.cells #[(.func (.func 83) #[] #[.pointer (some ⟨bk, 0, none⟩), .pointer (some ⟨bv, 0, none⟩)])] 66)).alloc (.cells #[.int .i64 0] 3)) 22 (.slice a h.length cap))
    (try simp only [World.size_alloc] at b0 b1 b2)
    exact ⟨((((Below.refl _ w).alloc (by first | exact Nat.le_refl _ | (simp only [World.size_alloc]; omega)) _).alloc (by first | exact Nat.le_refl _ | (simp only [World.size_alloc]; omega)) _).alloc (by first | exact Nat.le_refl _ | (simp only [World.size_alloc]; omega)) _), (by simp), b0, b1, b2⟩
  obtain ⟨W0, hW0⟩ : ∃ W0, (((w.alloc (.cells #[(.func (.func 83) #[] #[.pointer (some ⟨bk, 0, none⟩), .pointer (some ⟨bv, 0, none⟩)])] 66)).alloc (.cells #[.int .i64 0] 3)).alloc (.cells #[.slice a h.length cap] 22)) = W0 := ⟨_, rfl⟩
  have sW0 : W0.heap.size = w.heap.size + 1 + 1 + 1 := by rw [← hW0]; simp
  change Code.wpIn _ _ _ _ _ _ (((w.alloc (.cells #[(.func (.func 83) #[] #[.pointer (some ⟨bk, 0, none⟩), .pointer (some ⟨bv, 0, none⟩)])] 66)).alloc (.cells #[.int .i64 0] 3)).alloc (.cells #[.slice a h.length cap] 22))
  rw [hW0] at hS0 ⊢
  clear hW0
  refine wpIn_rangeFunc_ownH rfl (by omega) (gf := 63) (lb := #[.pointer (some ⟨w.heap.size + 1 + 1, 0, none⟩)]) rfl trivial (enters_of Try.func63 (by kernel_rfl) rfl)
    (events8_stops h w a cap hT0 (w.heap.size + 1 + 1) (3 - 1) W0 hS0.below hS0.be) (fun h k => kpE_t h k) (kpE_b (by omega) (by omega)) (Below.refl _ _) (fun _ => rfl)
    (FInvW w bk bv (.slice a h.length cap) h p) (FOutW w h p)
    (ownFrom_of_below (fun _ W ⟨h1, _⟩ => by rw [sW0]; exact h1.size) (fun _ W W' ⟨h1, h2⟩ hb => ⟨h1.bel (by rw [sW0] at hb; exact hb), h2⟩))
    (fun c => ownFrom_of_below (fun _ W ⟨h1, h2, h3⟩ => by rw [sW0]; exact h2) (fun _ W W' ⟨h1, h2, h3, i, h4, h5⟩ hb => by
      rw [sW0] at hb
      exact ⟨h1, Nat.le_trans h2 hb.size, h3.trans (hb.mono (by omega)), i, boxed_bel h4 hb (by omega), h5⟩))
    ⟨hS0, fun _ j hj => by simp at hj⟩
    (fun x a' W => ∃ Bx, w.heap.size + 1 + 1 < Bx ∧ SBox W Bx 48 #[.int .i64 h[x.val].1, .int .i64 h[x.val].2.1, .string ⟨h[x.val].2.2.1.toArray⟩, .string ⟨h[x.val].2.2.2.toArray⟩] ∧ a' = { tmps := #[.slice a h.length cap, (.func (.func 83) #[] #[.pointer (some ⟨bk, 0, none⟩), .pointer (some ⟨bv, 0, none⟩)]), undef, .pointer (some ⟨w.heap.size, 0, none⟩), .pointer (some ⟨w.heap.size + 1, 0, none⟩), .int .i64 (x.val : Int), .pointer (some ⟨Bx, 0, none⟩), .slice a h.length cap, eventsF8 (w.heap.size + 1 + 1), .int .i64 (x.val : Int), evW h[x.val], undef, undef, undef, undef], defers := [] })
    (fun x a' _ A B row hs hg hr => by
      obtain ⟨Bx, h1, h2, h4⟩ := hs
      exact ⟨Bx, h1, block_kept h2 hg (fun r e => (hr r e).2), h4⟩)
    ?assign ?body ?done ?stop
  case assign =>
    rintro l pre x W K ⟨hS, hp⟩ hK
    have hsz := hS.size
    gi_wp2
    refine hK _ _ ((KeepsOthers.alloc _ _).from _) ⟨(Below.refl _ W).alloc (by omega) _, Below.heap_alloc W _ _ (by omega)⟩ ⟨hS.bel ((Below.refl _ W).alloc hsz _), hp⟩ ⟨W.heap.size, by omega, SBox.new W _ _, rfl⟩
  case body =>
    rintro l pre x a' W hl hrec ⟨hS, hp⟩ ⟨Bx, hBx, hblk, rfl⟩ hlt
    have HW0 : Hid (W0.heap.size = w.heap.size + 1 + 1 + 1) := sW0
    clear sW0 hS0 hl hrec
    have hsz := hS.size
    have hxn := x.isLt
    obtain ⟨⟨y0, y1, y2, y3⟩, hy⟩ : ∃ y, h[x.val] = y := ⟨_, rfl⟩
    have HY : Hid (h[x.val] = (y0, y1, y2, y3)) := hy
    rw [hy] at hblk ⊢
    simp only at hblk
    clear hy
    have q0 := hblk.cell 0 _ rfl
    have q1 := hblk.cell 1 _ rfl
    have q2 := hblk.cell 2 _ rfl
    have q3 := hblk.cell 3 _ rfl
    obtain ⟨i, hxi⟩ : ∃ i, x.val = i := ⟨_, rfl⟩
    have HI : Hid (x.val = i) := hxi
    rw [hxi] at hxn ⊢
    clear hxi
    have c0 := hS.bs.cell
    have C := pwriter1_any y0 y1 y2 y3 key val bk bv W (boxed_bel Kbk hS.below Kbk.lt) (boxed_bel Kbv hS.below Kbv.lt)
    have b0 := Below.refl (w.heap.size + 1 + 1 + 1) W
    by_cases hm : y0 = 3 ∧ y2 = key ∧ y3 = val
    · rw [decide_eq_true hm] at C
      have HM : Hid (pre <+: List.finRange h.length → x.val = pre.length → pre.length < h.length → fi p h.length = some i) := fun hp1 hp2 hp3 => (fi_some _ _ _).2 ⟨hxn, by
        have e := HY.out
        rw [HP.out, ev_get h i hxn]
        simp only [HI.out] at e
        rw [e]
        exact decide_eq_true hm, fun j hj => hp hp1 j (by have := HI.out; omega)⟩
      clear hm
      gi_wp2_with ((try refine ⟨trivial, ?_⟩); gi_at_call 83; refine (CallsIn.inRound l (callsIn_wide.2 C)).mono ?_; clear C; rintro e W1 ⟨rfl, b1⟩; refine Hid.out ?_)
      have s1 := b1.size
      have hS2 := hS.bel (b1.mono hsz)
      have f1 := hS2.r.cell
      have g1 := hS2.r.frozen
      have HF : Hid (KeepsFrom W0.heap.size W (W1.setCell ⟨w.heap.size + 1, 0, none⟩ (.int .i64 (i : Int))) ∧ FOutW w h p .ret (pre ++ [x]) (W1.setCell ⟨w.heap.size + 1, 0, none⟩ (.int .i64 (i : Int)))) :=
        ⟨((keeps_of_below b1).trans (KeepsOthers.setCell _ _ _)).from _, rfl, by simp; omega, hS2.below.setCell (p := ⟨w.heap.size + 1, 0, none⟩) (by simp) _, i, hS2.r.set _, fun hpre => by
          obtain ⟨hp1, hp2, hp3⟩ := fin_prefix hpre
          exact HM.out hp1 hp2 hp3⟩
      clear hS hS2 hp HY HI HM
      refine Lib.hid ?_
      gi_wp2
      exact HF.out
    · rw [decide_eq_false hm] at C
      have HM : Hid (x.val = pre.length → pre.length < h.length → p pre.length = false) := fun hp2 hp3 => by
        have e := HY.out
        rw [HP.out, ev_get h _ hp3]
        simp only [hp2] at e
        rw [e]
        exact decide_eq_false hm
      clear hm
      gi_wp2_with ((try refine ⟨trivial, ?_⟩); gi_at_call 83; refine (CallsIn.inRound l (callsIn_wide.2 C)).mono ?_; clear C; rintro e W1 ⟨rfl, b1⟩; refine Hid.out ?_)
      have s1 := b1.size
      have hS2 := hS.bel (b1.mono hsz)
      have HF : Hid (KeepsFrom W0.heap.size W W1 ∧ KpE w.heap.size (w.heap.size + 1 + 1) W W1 ∧ FInvW w bk bv (.slice a h.length cap) h p (pre ++ [x]) W1) :=
        ⟨(keeps_of_below b1).from _, ⟨b1.mono (by omega), b1.block _ (by omega)⟩, hS2, fun hpre j hj => by
          obtain ⟨hp1, hp2, hp3⟩ := fin_prefix hpre
          rw [List.length_append, List.length_singleton] at hj
          exact upto_next p pre.length (hp hp1) (HM.out hp2 hp3) j hj⟩
      clear hS hS2 hp HY HI HM
      refine Lib.hid ?_
      gi_wp2
      exact HF.out
  case done =>
    rintro D ys W hD rfl ⟨hS, hp⟩ hK
    have HE : Hid (fi p h.length = none) := (fi_none _ _).2 (fun j hj => hp (List.prefix_refl _) j (by rw [List.length_finRange]; exact hj))
    have f1 := hS.r.cell
    have g1 := hS.r.frozen
    have HD : Hid (w.heap.size + 1 + 1 + 1 ≤ D) := by rw [sW0] at hD; exact hD
    clear sW0 hS0 hD hp
    gi_wp2
    have hK' := (KeepsOthers.setCell W ⟨w.heap.size + 1, 0, none⟩ (.int .i64 (-1))).same D _ hK rfl
    have B1 := hS.below.setCell (p := ⟨w.heap.size + 1, 0, none⟩) (by simp) (.int .i64 (-1))
    have R1 := hS.r.set (.int .i64 (-1))
    refine ⟨by simp, .inl ⟨_, _, rfl, run_takeDeferred hK', ?_⟩⟩
    have d1 := cell_kept R1.cell (grownBy_putObj' _ D (.deferred none)) (fun r e => by cases e; exact ⟨_, hK', rfl⟩)
    refine ⟨.int .i64 (-1), ?_, by rw [HE.out]; rfl, B1.trans (belowK_b (w := w) (Nat.le_refl _) _ D _ _ (by have := HD.out; omega) hK' rfl rfl)⟩
    refine results_cell1 rfl _ _ _ ?_
    simp [go_sem, d1]
  case stop =>
    rintro D c pre W hD hSp ⟨rfl, hs, hb, i, hr1, hbad⟩ hK
    have HE : Hid (fi p h.length = some i) := hbad hSp
    have HD : Hid (w.heap.size + 1 + 1 + 1 ≤ D) := by rw [sW0] at hD; exact hD
    clear sW0 hS0 hD hbad
    gi_wp2
    refine ⟨by simp, .inl ⟨_, _, rfl, run_takeDeferred hK, ?_⟩⟩
    have d1 := cell_kept hr1.cell (grownBy_putObj' _ D (.deferred none)) (fun r e => by cases e; exact ⟨_, hK, rfl⟩)
    refine ⟨.int .i64 (i : Int), ?_, by rw [HE.out]; rfl, hb.trans (belowK_b (w := w) (Nat.le_refl _) _ D _ _ (by have := HD.out; omega) hK rfl rfl)⟩
    refine results_cell1 rfl _ _ _ ?_
    simp [go_sem, d1]
def FOutV (w : World) (h : List Ev) (p : Nat → Bool) (c : Code) (pre : List (Fin h.length)) (W : World) : Prop :=
  c = .ret ∧ w.heap.size + 1 + 1 + 1 ≤ W.heap.size ∧ Below w.heap.size w W ∧ ∃ i : Nat, Boxed W (w.heap.size + 1) 3 (.int .i64 (i : Int)) ∧ (pre <+: List.finRange h.length → fi p h.length = some i)
end Go.Proofs.Yteehpkkkagdckaa
namespace Go.Proofs.Yteehpkkkagdckaa
set_option maxRecDepth 100000
open Go.RowKit Go.Shelf
set_option linter.unusedVariables false
attribute [local go_sem] Oper.semAt_some ba_size
theorem pwriter8_any (h : List Ev) (v : Value) (w : World) (hT : IsEvs w v h) (key val : List UInt8) :
    Calls Try.prog 59 #[v, .string ⟨key.toArray⟩, .string ⟨val.toArray⟩] w fun e w' => e = .returned (.int .i64 (oI (writerL h key val))) ∧ Below w.heap.size w w' := by
  have b1 := (Below.refl w.heap.size w).alloc (Nat.le_refl _) (.cells #[.string ⟨key.toArray⟩] 9)
  have b2 := b1.alloc (by simp) (.cells #[.string ⟨val.toArray⟩] 9)
  have k1 := (Boxed.new w 9 (.string ⟨key.toArray⟩)).alloc (.cells #[.string ⟨val.toArray⟩] 9)
  have k2 := Boxed.new (w.alloc (.cells #[.string ⟨key.toArray⟩] 9)) 9 (.string ⟨val.toArray⟩)
  rw [World.size_alloc] at k2
  have C := pfirstW_any h v _ (hT.below b2) key val _ _ k1 k2
  have HE : Hid (fi (fun k => decide ((ev h k).1 = 3 ∧ (ev h k).2.2.1 = key ∧ (ev h k).2.2.2 = val)) h.length = writerL h key val) := rfl
  rw [HE.out] at C
  obtain ⟨r, hr⟩ : ∃ r, writerL h key val = r := ⟨_, rfl⟩
  rw [hr] at C ⊢
  clear hr HE hT
  go_enter Try.func59, Try.ntmps59
  go_wp2_with fail
  refine C.mono ?_
  rintro e w1 ⟨rfl, bb⟩
  go_wp2_with fail
  go_ret
  exact ⟨rfl, b2.trans (bb.mono (by simp; omega))⟩
structure LSt (w : World) (t : Int) (key : List UInt8) (before : Int) (sl : Value) (m : Int) (W : World) : Prop where
  below : Below w.heap.size w W
  size : w.heap.size + 1 + 1 + 1 + 1 + 1 ≤ W.heap.size
  bt : Boxed W (w.heap.size) 3 (.int .i64 t)
  bk : Boxed W (w.heap.size + 1) 9 (.string ⟨key.toArray⟩)
  bb : Boxed W (w.heap.size + 1 + 1) 3 (.int .i64 before)
  bl : Boxed W (w.heap.size + 1 + 1 + 1) 3 (.int .i64 m)
  be : Boxed W (w.heap.size + 1 + 1 + 1 + 1) 22 (sl)
theorem LSt.bel {w : World} {t : Int} {key : List UInt8} {before : Int} {sl : Value} {m : Int} {W W' : World} (h : LSt w t key before sl m W) (hb : Below (w.heap.size + 1 + 1 + 1 + 1 + 1) W W') : LSt w t key before sl m W' :=
  ⟨h.below.trans (hb.mono (by omega)), Nat.le_trans h.size hb.size, boxed_bel h.bt hb (by omega), boxed_bel h.bk hb (by omega), boxed_bel h.bb hb (by omega), boxed_bel h.bl hb (by omega), boxed_bel h.be hb (by omega)⟩
theorem LSt.put {w : World} {t : Int} {key : List UInt8} {before : Int} {sl : Value} {m : Int} {W : World} (h : LSt w t key before sl m W) (i : Int) : LSt w t key before sl i (W.setCell ⟨w.heap.size + 1 + 1 + 1, 0, none⟩ (.int .i64 i)) :=
  ⟨h.below.setCell (p := ⟨w.heap.size + 1 + 1 + 1, 0, none⟩) (by simp; omega) _, by simp; exact h.size, h.bt.other (by omega) _, h.bk.other (by omega) _, h.bb.other (by omega) _, h.bl.set _, h.be.other (by omega) _⟩
def LInv (w : World) (t : Int) (key : List UInt8) (before : Int) (sl : Value) (h : List Ev) (pre : List (Fin h.length)) (W : World) : Prop :=
  ∃ m, LSt w t key before sl m W ∧ (pre <+: List.finRange h.length → m = oI (lastN h t key pre.length) ∧ (pre.length = 0 ∨ (pre.length : Int) ≤ before))
def LOut (w : World) (t : Int) (key : List UInt8) (before : Int) (sl : Value) (h : List Ev) (c : Code) (pre : List (Fin h.length)) (W : World) : Prop :=
  c = .exit 0 ∧ ∃ m, LSt w t key before sl m W ∧ (pre <+: List.finRange h.length → m = oI (lastL h t key before))
theorem lastN_next (h : List Ev) (t : Int) (key : List UInt8) (n : Nat) : lastN h t key (n + 1) = if isWrT h t key n = true then some n else lastN h t key n := rfl
set_option maxHeartbeats 2000000 in
theorem plast8_any (h : List Ev) (v : Value) (w : World) (t : Int) (key : List UInt8) (before : Int) (hT : IsEvs w v h) :
    Calls Try.prog 93 #[v, .int .i64 t, .string ⟨key.toArray⟩, .int .i64 before] w fun e w' => e = .returned (.int .i64 (oI (lastL h t key before))) ∧ Below w.heap.size w w' := by
  have hT0 := hT
  obtain ⟨a, cap, rfl, h1, h2, h3, HC⟩ := hT.some_at
  clear HC hT
  refine (callsIn_wide (n := 3)).1 ?_
  refine callsIn_of_wp_marks Try.func93 rfl trivial ?_ rfl
  simp only [Try.ntmps93, List.size_toArray, List.length_cons, List.length_nil, Nat.reduceAdd, Nat.reduceSub, Array.replicate_succ, Array.replicate_zero, List.push_toArray, List.append_toArray, List.nil_append, List.cons_append]
  gi_wp2_with ((try refine ⟨trivial, ?_⟩); gi_at_call 47; refine (callsIn_wide.2 (pevents8_any _ _ _ _)).mono ?_; rintro e w2 ⟨rfl, rfl⟩)
  have hS0 : LSt w t key before (.slice a h.length cap) (-1) (((((w.alloc (.cells #[.int .i64 t] 3)).alloc (.cells #[.string ⟨key.toArray⟩] 9)).alloc (.cells #[.int .i64 before] 3)).alloc (.cells #[.int .i64 (-1)] 3)).alloc (.cells #[.slice a h.length cap] 22)) := by
    have b0 := (((((Boxed.new w 3 (.int .i64 t)).alloc (.cells #[.string ⟨key.toArray⟩] 9)).alloc (.cells #[.int .i64 before] 3)).alloc (.cells #[.int .i64 (-1)] 3)).alloc (.cells #[.slice a h.length cap] 22))
    have b1 := ((((Boxed.new (w.alloc (.cells #[.int .i64 t] 3)) 9 (.string ⟨key.toArray⟩)).alloc (.cells #[.int .i64 before] 3)).alloc (.cells #[.int .i64 (-1)] 3)).alloc (.cells #[.slice a h.length cap] 22))
    have b2 := (((Boxed.new ((w.alloc (.cells #[.int .i64 t] 3)).alloc (.cells #[.string ⟨key.toArray⟩] 9)) 3 (.int .i64 before)).alloc (.cells #[.int .i64 (-1)] 3)).alloc (.cells #[.slice a h.length cap] 22))
    have b3 := ((Boxed.new (((w.alloc (.cells #[.int .i64 t] 3)).alloc (.cells #[.string ⟨key.toArray⟩] 9)).alloc (.cells #[.int .i64 before] 3)) 3 (.int .i64 (-1))).alloc (.cells #[.slice a h.length cap] 22))
    have b4 := (Boxed.new ((((w.alloc (.cells #[.int .i64 t] 3)).alloc (.cells #[.string ⟨key.toArray⟩] 9)).alloc (.cells #[.int .i64 before] 3)).alloc (.cells #[.int .i64 (-1)] 3)) 22 (.slice a h.length cap))
    (try simp only [World.size_alloc] at b0 b1 b2 b3 b4)
    exact ⟨((((((Below.refl _ w).alloc (by first | exact Nat.le_refl _ | (simp only [World.size_alloc]; omega)) _).alloc (by first | exact Nat.le_refl _ | (simp only [World.size_alloc]; omega)) _).alloc (by first | exact Nat.le_refl _ | (simp only [World.size_alloc]; omega)) _).alloc (by first | exact Nat.le_refl _ | (simp only [World.size_alloc]; omega)) _).alloc (by first | exact Nat.le_refl _ | (simp only [World.size_alloc]; omega)) _), (by simp), b0, b1, b2, b3, b4⟩
  obtain ⟨W0, hW0⟩ : ∃ W0, (((((w.alloc (.cells #[.int .i64 t] 3)).alloc (.cells #[.string ⟨key.toArray⟩] 9)).alloc (.cells #[.int .i64 before] 3)).alloc (.cells #[.int .i64 (-1)] 3)).alloc (.cells #[.slice a h.length cap] 22)) = W0 := ⟨_, rfl⟩
  have sW0 : W0.heap.size = w.heap.size + 1 + 1 + 1 + 1 + 1 := by rw [← hW0]; simp
  change Code.wpIn _ _ _ _ _ _ (((((w.alloc (.cells #[.int .i64 t] 3)).alloc (.cells #[.string ⟨key.toArray⟩] 9)).alloc (.cells #[.int .i64 before] 3)).alloc (.cells #[.int .i64 (-1)] 3)).alloc (.cells #[.slice a h.length cap] 22))
  rw [hW0] at hS0 ⊢
  clear hW0
  (try refine wpIn_block ?_)
  refine wpIn_rangeFunc_ownH rfl (by omega) (gf := 63) (lb := #[.pointer (some ⟨w.heap.size + 1 + 1 + 1 + 1, 0, none⟩)]) rfl trivial (enters_of Try.func63 (by kernel_rfl) rfl)
    (events8_stops h w a cap hT0 (w.heap.size + 1 + 1 + 1 + 1) (3 - 1) W0 hS0.below hS0.be) (fun h k => kpE_t h k) (kpE_b (by omega) (by omega)) (Below.refl _ _) (fun _ => rfl)
    (LInv w t key before (.slice a h.length cap) h) (LOut w t key before (.slice a h.length cap) h)
    (ownFrom_of_below (fun _ W ⟨m, h1, _⟩ => by rw [sW0]; exact h1.size) (fun _ W W' ⟨m, h1, h2⟩ hb => ⟨m, h1.bel (by rw [sW0] at hb; exact hb), h2⟩))
    (fun c => ownFrom_of_below (fun _ W ⟨h1, m, h2, h3⟩ => by rw [sW0]; exact h2.size) (fun _ W W' ⟨h1, m, h2, h3⟩ hb => ⟨h1, m, h2.bel (by rw [sW0] at hb; exact hb), h3⟩))
    ⟨_, hS0, fun _ => ⟨rfl, Or.inl rfl⟩⟩
    (fun x a' W => ∃ Bx, w.heap.size + 1 + 1 + 1 + 1 < Bx ∧ SBox W Bx 48 #[.int .i64 h[x.val].1, .int .i64 h[x.val].2.1, .string ⟨h[x.val].2.2.1.toArray⟩, .string ⟨h[x.val].2.2.2.toArray⟩] ∧ a' = { tmps := #[.slice a h.length cap, .int .i64 t, .string ⟨key.toArray⟩, .int .i64 before, undef, .pointer (some ⟨w.heap.size, 0, none⟩), .pointer (some ⟨w.heap.size + 1, 0, none⟩), .pointer (some ⟨w.heap.size + 1 + 1, 0, none⟩), .int .i64 0, .pointer (some ⟨w.heap.size + 1 + 1 + 1, 0, none⟩), .int .i64 (x.val : Int), .pointer (some ⟨Bx, 0, none⟩), .slice a h.length cap, eventsF8 (w.heap.size + 1 + 1 + 1 + 1), .int .i64 (x.val : Int), evW h[x.val], undef, undef, undef, undef, undef, undef, undef, undef, undef, undef, undef, undef, undef, undef], defers := [] })
    (fun x a' _ A B row hs hg hr => by
      obtain ⟨Bx, h1, h2, h4⟩ := hs
      exact ⟨Bx, h1, block_kept h2 hg (fun r e => (hr r e).2), h4⟩)
    ?assign ?body ?done ?stop
  case assign =>
    rintro l pre x W K ⟨m, hS, hp⟩ hK
    have hsz := hS.size
    gi_wp2
    refine hK _ _ ((KeepsOthers.alloc _ _).from _) ⟨(Below.refl _ W).alloc (by omega) _, Below.heap_alloc W _ _ (by omega)⟩ ⟨m, hS.bel ((Below.refl _ W).alloc hsz _), hp⟩ ⟨W.heap.size, by omega, SBox.new W _ _, rfl⟩
  case body =>
    rintro l pre x a' W hl hrec ⟨m, hS, hp⟩ ⟨Bx, hBx, hblk, rfl⟩ hlt
    have HW0 : Hid (W0.heap.size = w.heap.size + 1 + 1 + 1 + 1 + 1) := sW0
    clear sW0 hS0 hl hrec
    have hsz := hS.size
    have hxn := x.isLt
    obtain ⟨⟨y0, y1, y2, y3⟩, hy⟩ : ∃ y, h[x.val] = y := ⟨_, rfl⟩
    have HY : Hid (h[x.val] = (y0, y1, y2, y3)) := hy
    rw [hy] at hblk ⊢
    simp only at hblk
    clear hy
    have q0 := hblk.cell 0 _ rfl
    have q1 := hblk.cell 1 _ rfl
    have q2 := hblk.cell 2 _ rfl
    have q3 := hblk.cell 3 _ rfl
    obtain ⟨i, hxi⟩ : ∃ i, x.val = i := ⟨_, rfl⟩
    have HI : Hid (x.val = i) := hxi
    rw [hxi] at hxn ⊢
    clear hxi
    have c0 := hS.bt.cell
    have c1 := hS.bk.cell
    have c2 := hS.bb.cell
    have c3 := hS.bl.cell
    have g3 := hS.bl.frozen
    have EK : Hid (x.val = pre.length → pre.length < h.length → ev h pre.length = (y0, y1, y2, y3)) := fun hp2 hp3 => by
      have e := HY.out
      rw [ev_get h _ hp3]
      simp only [hp2] at e
      exact e
    by_cases hbe : before ≤ (i : Int)
    · have HF : Hid (KeepsFrom W0.heap.size W W ∧ LOut w t key before (.slice a h.length cap) h (.exit 0) (pre ++ [x]) W) :=
        ⟨KeepsFrom.refl _ _, rfl, m, hS, fun hpre => by
          obtain ⟨hp1, hp2, hp3⟩ := fin_prefix hpre
          obtain ⟨e1, e2⟩ := hp hp1
          have ei := HI.out
          rw [e1, last_end h t key before pre.length (by omega) e2 (Or.inr (by omega))]⟩
      clear hS hp HY HI EK
      gi_wp2
      exact HF.out
    · have hb2 : ¬ before ≤ (i : Int) := hbe
      have HB : Hid ((i : Int) < before) := by show _ < _; omega
      by_cases d1 : y1 = t
      · have e1 : (y1 == t) = true := by rw [d1]; exact beq_self_eq_true _
        have C := pwrites_any y0 y1 y2 y3 key W
        have D1 : Hid (y1 = t) := d1
        by_cases hm : y0 = 3 ∧ y2 = key
        · rw [decide_eq_true hm] at C
          have HM : Hid (y0 = 3 ∧ y2 = key) := hm
          clear hm d1 hbe
          gi_wp2_with ((try refine ⟨trivial, ?_⟩); gi_at_call 65; refine (CallsIn.inRound l (callsIn_wide.2 C)).mono ?_; clear C; rintro e W1 ⟨rfl, b1⟩; refine Hid.out ?_)
          have s1 := b1.size
          have hS2 := hS.bel (b1.mono hsz)
          have f1 := hS2.bl.cell
          have g1 := hS2.bl.frozen
          have HF : Hid (KeepsFrom W0.heap.size W (W1.setCell ⟨w.heap.size + 1 + 1 + 1, 0, none⟩ (.int .i64 (i : Int))) ∧ KpE w.heap.size (w.heap.size + 1 + 1 + 1 + 1) W (W1.setCell ⟨w.heap.size + 1 + 1 + 1, 0, none⟩ (.int .i64 (i : Int))) ∧ LInv w t key before (.slice a h.length cap) h (pre ++ [x]) (W1.setCell ⟨w.heap.size + 1 + 1 + 1, 0, none⟩ (.int .i64 (i : Int)))) :=
            ⟨((keeps_of_below b1).trans (KeepsOthers.setCell _ _ _)).from _, ⟨(b1.mono (by omega)).setCell (p := ⟨w.heap.size + 1 + 1 + 1, 0, none⟩) (by simp; omega) _, (Below.heap_setCell _ _ _ _ (by simp)).trans (b1.block _ (by omega))⟩, _, hS2.put _, fun hpre => by
              obtain ⟨hp1, hp2, hp3⟩ := fin_prefix hpre
              have ei := HI.out
              have hb := HB.out
              have ek := EK.out hp2 hp3
              rw [List.length_append, List.length_singleton, lastN_next, if_pos (by unfold isWrT; rw [ek]; exact decide_eq_true ⟨HM.out.1, D1.out, HM.out.2⟩)]
              exact ⟨by rw [← hp2, ei]; rfl, Or.inr (by omega)⟩⟩
          clear hS hS2 hp HY HI HM EK D1
          refine Lib.hid ?_
          gi_wp2
          exact HF.out
        · rw [decide_eq_false hm] at C
          have HM : Hid (¬ (y0 = 3 ∧ y2 = key)) := hm
          clear hm d1 hbe
          gi_wp2_with ((try refine ⟨trivial, ?_⟩); gi_at_call 65; refine (CallsIn.inRound l (callsIn_wide.2 C)).mono ?_; clear C; rintro e W1 ⟨rfl, b1⟩; refine Hid.out ?_)
          have s1 := b1.size
          have hS2 := hS.bel (b1.mono hsz)
          have HF : Hid (KeepsFrom W0.heap.size W W1 ∧ KpE w.heap.size (w.heap.size + 1 + 1 + 1 + 1) W W1 ∧ LInv w t key before (.slice a h.length cap) h (pre ++ [x]) W1) :=
            ⟨(keeps_of_below b1).from _, ⟨b1.mono (by omega), b1.block _ (by omega)⟩, m, hS2, fun hpre => by
              obtain ⟨hp1, hp2, hp3⟩ := fin_prefix hpre
              obtain ⟨e1, e2⟩ := hp hp1
              have ei := HI.out
              have hb := HB.out
              have ek := EK.out hp2 hp3
              rw [List.length_append, List.length_singleton, lastN_next, if_neg (by unfold isWrT; rw [ek]; simp only [decide_eq_true_eq]; exact fun hh => HM.out ⟨hh.1, hh.2.2⟩)]
              exact ⟨e1, Or.inr (by omega)⟩⟩
          clear hS hS2 hp HY HI HM EK D1
          refine Lib.hid ?_
          gi_wp2
          exact HF.out
      · have e1 : (y1 == t) = false := beq_eq_false_iff_ne.2 d1
        have D1 : Hid (¬ y1 = t) := d1
        have HF : Hid (KeepsFrom W0.heap.size W W ∧ KpE w.heap.size (w.heap.size + 1 + 1 + 1 + 1) W W ∧ LInv w t key before (.slice a h.length cap) h (pre ++ [x]) W) :=
          ⟨KeepsFrom.refl _ _, ⟨Below.refl _ _, rfl⟩, m, hS, fun hpre => by
            obtain ⟨hp1, hp2, hp3⟩ := fin_prefix hpre
            obtain ⟨e1, e2⟩ := hp hp1
            have ei := HI.out
            have hb := HB.out
            have ek := EK.out hp2 hp3
            rw [List.length_append, List.length_singleton, lastN_next, if_neg (by unfold isWrT; rw [ek]; simp only [decide_eq_true_eq]; exact fun hh => D1.out hh.2.1)]
            exact ⟨e1, Or.inr (by omega)⟩⟩
        clear hS hp HY HI EK D1 d1 hbe
        gi_wp2
        refine ⟨trivial, ?_⟩
        gi_wp2
        exact HF.out
  case done =>
    rintro D ys W hD rfl ⟨m, hS, hp⟩ hK
    obtain ⟨e1, e2⟩ := hp (List.prefix_refl _)
    rw [List.length_finRange] at e1 e2
    have HE : Hid (m = oI (lastL h t key before)) := by show _ = _; rw [e1, last_end h t key before h.length (Nat.le_refl _) e2 (Or.inl rfl)]
    have f1 := hS.bl.cell
    have HD : Hid (w.heap.size + 1 + 1 + 1 + 1 + 1 ≤ D) := by rw [sW0] at hD; exact hD
    clear sW0 hS0 hD hp e1 e2
    gi_wp2
    refine ⟨by simp, .inl ⟨_, _, rfl, run_takeDeferred hK, ?_⟩⟩
    exact ⟨_, results_tmp rfl _ _ _, by rw [← HE.out]; rfl, hS.below.trans (belowK_b (w := w) (Nat.le_refl _) _ D _ _ (by have := HD.out; omega) hK rfl rfl)⟩
  case stop =>
    rintro D c pre W hD hSp ⟨rfl, m, hS, hbad⟩ hK
    have HE : Hid (m = oI (lastL h t key before)) := hbad hSp
    have f1 := hS.bl.cell
    have HD : Hid (w.heap.size + 1 + 1 + 1 + 1 + 1 ≤ D) := by rw [sW0] at hD; exact hD
    clear sW0 hS0 hD hbad
    gi_wp2
    refine ⟨by simp, .inl ⟨_, _, rfl, run_takeDeferred hK, ?_⟩⟩
    exact ⟨_, results_tmp rfl _ _ _, by rw [← HE.out]; rfl, hS.below.trans (belowK_b (w := w) (Nat.le_refl _) _ D _ _ (by have := HD.out; omega) hK rfl rfl)⟩
end Go.Proofs.Yteehpkkkagdckaa
namespace Go.Proofs.Yteehpkkkagdckaa
set_option maxRecDepth 100000
open Go.RowKit Go.Shelf Go.Maps
set_option linter.unusedVariables false
attribute [local go_sem] Oper.semAt_some
abbrev livingF (b : Nat) : Value := .func (.func 70) #[] #[.pointer (some ⟨b, 0, none⟩)]
theorem pliving_any (a : Option Addr) (n cap : Nat) (w : World) :
    Calls Try.prog 55 #[.slice a n cap] w fun e w' => e = .returned (livingF w.heap.size) ∧ w' = w.alloc (.cells #[.slice a n cap] 22) := by
  go_enter Try.func55, Try.ntmps55
  go_wp2_with fail
  go_ret
  exact ⟨rfl, rfl⟩
theorem zero8u (w : World) : (zeroValue 75).run Try.prog w = .ok (.agg #[]) w := by kernel_rfl
/-- What a round keeps: all that lay ahead, the slice's box, and the iterator's own blocks. -/
structure KpL (n b A : Nat) (W W' : World) : Prop where
  below : Below n W W'
  box : W'.heap[b]? = W.heap[b]?
  own : ∀ j, A ≤ j → j < A + 1 + 1 + 1 + 1 → W'.heap[j]? = W.heap[j]?
theorem KpL.trans {n b A : Nat} {X Y Z : World} (h : KpL n b A X Y) (k : KpL n b A Y Z) : KpL n b A X Z :=
  ⟨h.below.trans k.below, k.box.trans h.box, fun j h1 h2 => (k.own j h1 h2).trans (h.own j h1 h2)⟩
/-- What the loop within keeps. -/
structure VSt (V : World) (l : Nat) (sl : Value) (m : Nat) (p : Int → Bool) (W : World) : Prop where
  size : V.heap.size + 1 + 1 + 1 + 1 ≤ W.heap.size
  by_ : Boxed W (V.heap.size) 89 (.func (.yield l) #[] #[])
  bm : ISet W (V.heap.size + 1) m p
  bb : Boxed W (V.heap.size + 1 + 1) 94 (.map (some (V.heap.size + 1)))
  be : Boxed W (V.heap.size + 1 + 1 + 1) 22 sl
theorem VSt.bel {V : World} {l : Nat} {sl : Value} {m : Nat} {p : Int → Bool} {W W' : World} (h : VSt V l sl m p W) (hb : Below (V.heap.size + 1 + 1 + 1 + 1) W W') : VSt V l sl m p W' :=
  ⟨Nat.le_trans h.size hb.size, boxed_bel h.by_ hb (by omega), h.bm.bel hb (by omega), boxed_bel h.bb hb (by omega), boxed_bel h.be hb (by omega)⟩
theorem VSt.turn {V : World} {l : Nat} {sl : Value} {m m' : Nat} {p p' : Int → Bool} {W W' : World} (h : VSt V l sl m p W) (hg : W.grownBy W' (some (V.heap.size + 1))) (hf : ISet W' (V.heap.size + 1) m' p') : VSt V l sl m' p' W' :=
  ⟨Nat.le_trans h.size hg.size, h.by_.kept hg (fun e => by have := Option.some.inj e; omega), hf, h.bb.kept hg (fun e => by have := Option.some.inj e; omega), h.be.kept hg (fun e => by have := Option.some.inj e; omega)⟩
theorem VSt.own {V : World} {l : Nat} {sl : Value} {m : Nat} {p : Int → Bool} {W W' : World} (h : VSt V l sl m p W) (hs : W.heap.size ≤ W'.heap.size) (ho : ∀ j, V.heap.size ≤ j → j < V.heap.size + 1 + 1 + 1 + 1 → W'.heap[j]? = W.heap[j]?) : VSt V l sl m p W' :=
  ⟨Nat.le_trans h.size hs, (ho _ (by omega) (by omega)).trans h.by_, h.bm.same (ho _ (by omega) (by omega)), (ho _ (by omega) (by omega)).trans h.bb, (ho _ (by omega) (by omega)).trans h.be⟩
/-- A step that turns one block that is no cells, of the iterator's own, or none. -/
theorem own_step {β : Type} {B : Nat} {J : β → World → Prop} (hJ : OwnFrom B J) {s : β} {W W' : World} (h : J s W) (hg : Below W.heap.size W W') : J s W' :=
  hJ s W W' none h (grown_below8 none hg) (fun r e => by cases e)
set_option maxHeartbeats 4000000 in
theorem living8_in (h : List Ev) (w0 : World) (a : Option Addr) (cap : Nat) (hT : IsEvs w0 (.slice a h.length cap) h) (hG : ∀ x ∈ h, goodE x) (hn : h.length ≤ 300) (bh k l : Nat) (V : World) (hW : Below w0.heap.size w0 V) (hbox : Boxed V bh 22 (.slice a h.length cap)) (J Jx : List (Fin h.length) → World → Prop) (hJ : OwnFrom V.heap.size J) (hJx : OwnFrom V.heap.size Jx)
    (hY : ∀ pre x W, J pre W → pre.length < h.length → V.heap.size + 1 + 1 + 1 + 1 ≤ W.heap.size → YieldAt Fence.wide (k - 1) Try.prog l (ixV h x) W fun e W' => (e = .returned (.bool true) ∧ J (pre ++ [x]) W' ∧ KpL w0.heap.size bh V.heap.size W W' ∧ KeepsFrom V.heap.size W W') ∨ (e = .returned (.bool false) ∧ Jx (pre ++ [x]) W' ∧ KeepsFrom V.heap.size W W'))
    (h0 : J [] V) :
    CallsIn Fence.wide k Try.prog 70 #[.func (.yield l) #[] #[], .pointer (some ⟨bh, 0, none⟩)] V fun e W' => (∃ v, e = .returned v) ∧
      ((∃ ys, ys = livP h ∧ J ys W') ∨ (∃ pre, pre <+: livP h ∧ Jx pre W')) := by
  have hdd : ∀ k : Nat, (Fence.wide.depth.isSome = true → 1 ≤ k) := fun k h => by cases h
  have hmm := @run_makeMap Try.prog
  have c0 := (((hbox.alloc (.cells #[.func (.yield l) #[] #[]] 89)).alloc (.map #[] 0)).alloc (.cells #[.map (some (V.heap.size + 1))] 94)).cell
  have hbl := hbox.lt
  refine callsIn_depth 5 ?_
  refine callsIn_of_wp_marks Try.func70 rfl trivial ?_ rfl
  simp only [Try.ntmps70, List.size_toArray, List.length_cons, List.length_nil, Nat.reduceAdd, Nat.reduceSub, Array.replicate_succ, Array.replicate_zero, List.push_toArray, List.append_toArray, List.nil_append, List.cons_append]
  gi_wp2_with ((try refine ⟨trivial, ?_⟩); gi_at_call 47; refine (callsIn_wide.2 (pevents8_any _ _ _ _)).mono ?_; rintro e w2 ⟨rfl, rfl⟩)
  have hS0 : VSt V l (.slice a h.length cap) 0 (fun _ => false) ((((V.alloc (.cells #[.func (.yield l) #[] #[]] 89)).alloc (.map #[] 0)).alloc (.cells #[.map (some (V.heap.size + 1))] 94)).alloc (.cells #[.slice a h.length cap] 22)) := by
    have b0 := (((Boxed.new V 89 (.func (.yield l) #[] #[])).alloc (.map #[] 0)).alloc (.cells #[.map (some (V.heap.size + 1))] 94)).alloc (.cells #[.slice a h.length cap] 22)
    have b1 := ((ISet.made (V.alloc (.cells #[.func (.yield l) #[] #[]] 89))).kept (World.grownBy_alloc _ (.cells #[.map (some (V.heap.size + 1))] 94) none) (by simp)).kept (World.grownBy_alloc _ (.cells #[.slice a h.length cap] 22) none) (by simp)
    have b2 := (Boxed.new ((V.alloc (.cells #[.func (.yield l) #[] #[]] 89)).alloc (.map #[] 0)) 94 (.map (some (V.heap.size + 1)))).alloc (.cells #[.slice a h.length cap] 22)
    have b3 := Boxed.new (((V.alloc (.cells #[.func (.yield l) #[] #[]] 89)).alloc (.map #[] 0)).alloc (.cells #[.map (some (V.heap.size + 1))] 94)) 22 (.slice a h.length cap)
    simp only [World.size_alloc] at b0 b1 b2 b3
    exact ⟨by simp, b0, b1, b2, b3⟩
  have B0 : Below V.heap.size V ((((V.alloc (.cells #[.func (.yield l) #[] #[]] 89)).alloc (.map #[] 0)).alloc (.cells #[.map (some (V.heap.size + 1))] 94)).alloc (.cells #[.slice a h.length cap] 22)) := ((((Below.refl _ V).alloc (Nat.le_refl _) _).alloc (by simp) _).alloc (by simp; omega) _).alloc (by simp; omega) _
  obtain ⟨W0, hW0⟩ : ∃ W0, ((((V.alloc (.cells #[.func (.yield l) #[] #[]] 89)).alloc (.map #[] 0)).alloc (.cells #[.map (some (V.heap.size + 1))] 94)).alloc (.cells #[.slice a h.length cap] 22)) = W0 := ⟨_, rfl⟩
  have sW0 : W0.heap.size = V.heap.size + 1 + 1 + 1 + 1 := by rw [← hW0]; simp
  change Code.wpIn _ _ _ _ _ _ ((((V.alloc (.cells #[.func (.yield l) #[] #[]] 89)).alloc (.map #[] 0)).alloc (.cells #[.map (some (V.heap.size + 1))] 94)).alloc (.cells #[.slice a h.length cap] 22))
  rw [hW0] at hS0 B0 ⊢
  clear hW0 c0
  have J0 : J [] W0 := own_step hJ h0 B0
  refine wpIn_rangeFunc_ownH rfl (by omega) (gf := 63) (lb := #[.pointer (some ⟨V.heap.size + 1 + 1 + 1, 0, none⟩)]) rfl trivial (enters_of Try.func63 (by kernel_rfl) rfl)
    (events8_stops h w0 a cap hT (V.heap.size + 1 + 1 + 1) (5 - 1) W0 (hW.trans (B0.mono hW.size)) hS0.be) (fun h k => kpE_t h k) (kpE_b (by have := hW.size; omega) (by omega)) (Below.refl _ _) (fun _ => rfl)
    (fun pre W => J (livF h pre) W ∧ VSt V l (.slice a h.length cap) pre.length (endedIn h pre) W ∧ Below V.heap.size V V) (fun c pre W => c = .ret ∧ Jx (livF h pre) W)
    (fun s X Y row ⟨hj, hs, hb⟩ hg hr => ⟨hJ _ X Y row hj hg (fun r e => ⟨by have := (hr r e).1; omega, (hr r e).2⟩), hs.bel ((Below.refl _ X).grown hg hs.size (fun r e => by have := (hr r e).1; omega)), hb⟩)
    (fun c s X Y row ⟨hc, hj⟩ hg hr => ⟨hc, hJx _ X Y row hj hg (fun r e => ⟨by have := (hr r e).1; omega, (hr r e).2⟩)⟩)
    ⟨J0, hS0, Below.refl _ _⟩
    (fun x a' W => ∃ Bx, V.heap.size + 1 + 1 + 1 < Bx ∧ SBox W Bx 48 #[.int .i64 h[x.val].1, .int .i64 h[x.val].2.1, .string ⟨h[x.val].2.2.1.toArray⟩, .string ⟨h[x.val].2.2.2.toArray⟩] ∧ a' = { tmps := #[.func (.yield l) #[] #[], .pointer (some ⟨bh, 0, none⟩), .pointer (some ⟨V.heap.size, 0, none⟩), .pointer (some ⟨V.heap.size + 1 + 1, 0, none⟩), .int .i64 (x.val : Int), .pointer (some ⟨Bx, 0, none⟩), undef, undef, .map (some (V.heap.size + 1)), .slice a h.length cap, eventsF8 (V.heap.size + 1 + 1 + 1), .int .i64 (x.val : Int), evW h[x.val], undef, undef, undef, undef, undef, undef, undef, undef, undef, undef, undef, undef, undef, undef, undef, undef, undef, undef, undef], defers := [] })
    (fun x a' _ A B row hs hg hr => by
      obtain ⟨Bx, h1, h2, h4⟩ := hs
      exact ⟨Bx, h1, block_kept h2 hg (fun r e => (hr r e).2), h4⟩)
    ?assign ?body ?done ?stop
  case assign =>
    rintro l' pre x W K ⟨hj, hS, _⟩ hK
    have hsz := hS.size
    gi_wp2
    have b1 := (Below.refl W.heap.size W).alloc (Nat.le_refl _) (.cells #[.int .i64 h[x.val].1, .int .i64 h[x.val].2.1, .string ⟨h[x.val].2.2.1.toArray⟩, .string ⟨h[x.val].2.2.2.toArray⟩] 48)
    refine hK _ _ ((KeepsOthers.alloc _ _).from _) ⟨(Below.refl _ W).alloc (by have := hW.size; omega) _, Below.heap_alloc W _ _ (by omega)⟩ ⟨own_step hJ hj b1, hS.bel (b1.mono hsz), Below.refl _ _⟩ ⟨W.heap.size, by omega, SBox.new W _ _, rfl⟩
  case body =>
    rintro l' pre x a' W hl hrec ⟨hj, hS, _⟩ ⟨Bx, hBx, hblk, rfl⟩ hlt
    have HW0 : Hid (W0.heap.size = V.heap.size + 1 + 1 + 1 + 1) := sW0
    have hVs := hW.size
    clear sW0 hS0 hl hrec J0 B0
    have hsz := hS.size
    have hxn := x.isLt
    have hgx := hG h[x.val] (List.getElem_mem _)
    obtain ⟨⟨y0, y1, y2, y3⟩, hy⟩ : ∃ y, h[x.val] = y := ⟨_, rfl⟩
    have HY : Hid (h[x.val] = (y0, y1, y2, y3)) := hy
    have e21 : h[x.val].2.1 = y1 := by rw [hy]
    have HDead : Hid (endedIn h pre y1 = true → livF h (pre ++ [x]) = livF h pre) := fun he => livF_snoc_dead h pre x (by rw [e21]; exact he)
    have HLive : Hid (endedIn h pre y1 = false → livF h (pre ++ [x]) = livF h pre ++ [x]) := fun he => livF_snoc h pre x (by rw [e21]; exact he)
    have HE : Hid (endedIn h (pre ++ [x]) = fun t => (endedIn h pre t || decide (y1 = t ∧ (y0 = 4 ∨ y0 = 5)))) := by
      show _ = _
      funext t
      rw [endedIn_snoc, hy]
    have ki := key8i hgx.2.1
    rw [e21] at ki
    clear e21 hgx
    rw [hy] at hblk ⊢
    simp only at hblk
    clear hy
    have q0 := hblk.cell 0 _ rfl
    have q1 := hblk.cell 1 _ rfl
    have q2 := hblk.cell 2 _ rfl
    have q3 := hblk.cell 3 _ rfl
    obtain ⟨i, hxi⟩ : ∃ i, x.val = i := ⟨_, rfl⟩
    have HI : Hid (x.val = i) := hxi
    rw [hxi] at hxn ⊢
    clear hxi
    have c1 := hS.bb.cell
    obtain ⟨D, hown, hD⟩ := hS.bm
    have hDy := hD y1
    have lenx : (pre ++ [x]).length = pre.length + 1 := by simp
    have LX : Hid ((pre ++ [x]).length = pre.length + 1) := lenx
    clear lenx
    have bU := (Below.refl W.heap.size W).alloc (Nat.le_refl _) (.cells #[] 75)
    cases he : endedIn h pre y1 with
    | true =>
      rw [he] at hDy
      have HF : Hid (KeepsFrom W0.heap.size W (W.alloc (.cells #[] 75)) ∧ KpE w0.heap.size (V.heap.size + 1 + 1 + 1) W (W.alloc (.cells #[] 75)) ∧ (J (livF h (pre ++ [x])) (W.alloc (.cells #[] 75)) ∧ VSt V l (.slice a h.length cap) (pre ++ [x]).length (endedIn h (pre ++ [x])) (W.alloc (.cells #[] 75)) ∧ Below V.heap.size V V)) := by
        refine ⟨(KeepsOthers.alloc _ _).from _, ⟨bU.mono (by omega), bU.block _ (by omega)⟩, by rw [HDead.out he]; exact own_step hJ hj bU, ?_, Below.refl _ _⟩
        have hS' := hS.bel (bU.mono hsz)
        refine ⟨hS'.size, hS'.by_, ?_, hS'.bb, hS'.be⟩
        rw [LX.out, HE.out]
        have e : (fun t => (endedIn h pre t || decide (y1 = t ∧ (y0 = 4 ∨ y0 = 5)))) = endedIn h pre := by
          funext t
          by_cases ht : y1 = t
          · subst ht; rw [he]; rfl
          · rw [decide_eq_false (fun hh => ht hh.1), Bool.or_false]
        rw [e]
        exact hS'.bm.mono (Nat.le_succ _)
      clear hS hj HDead HLive HE hY hJ hJx he
      gi_wp2_with (gi_at_lookup; refine wpListIn_lookup_own_unit _ rfl _ _ 94 rfl 3 75 law8i Try.underlying94 (zero8u _) (V.heap.size + 1) pre.length D rfl hown _ _ rfl ki ?_; rw [hDy])
      exact HF.out
    | false =>
      rw [he] at hDy
      have C := pends_any y0 y1 y2 y3 (W.alloc (.cells #[] 75))
      have q0' := cell_bel bU q0
      have q1' := cell_bel bU q1
      have q2' := cell_bel bU q2
      have q3' := cell_bel bU q3
      by_cases hm : y0 = 4 ∨ y0 = 5
      · rw [decide_eq_true hm] at C
        have HM : Hid (y0 = 4 ∨ y0 = 5) := hm
        clear hm
        gi_wp2_with (first
          | (gi_at_lookup; refine wpListIn_lookup_own_unit _ rfl _ _ 94 rfl 3 75 law8i Try.underlying94 (zero8u _) (V.heap.size + 1) pre.length D rfl hown _ _ rfl ki ?_; rw [hDy])
          | ((try refine ⟨trivial, ?_⟩); gi_at_call 56; refine (CallsIn.inRound l' (callsIn_wide.2 C)).mono ?_; clear C; rintro e W1 ⟨rfl, b1⟩; refine Hid.out ?_))
        have bW1 : Below W.heap.size W W1 := bU.trans (b1.mono (by simp))
        have s1 := bW1.size
        have hS1 := hS.bel (bW1.mono hsz)
        have x1 := hblk.below bW1
        have c2 := hS1.bb.cell
        have r0 := x1.cell 0 _ rfl
        have r1 := x1.cell 1 _ rfl
        have r2 := x1.cell 2 _ rfl
        have r3 := x1.cell 3 _ rfl
        obtain ⟨D1, hown1, hD1⟩ := hS1.bm
        have j1 : J (livF h pre) W1 := own_step hJ hj bW1
        clear hD hown hDy q0 q1 q2 q3 q0' q1' q2' q3' c1
        refine Lib.hid ?_
        gi_wp2_with (gi_at_mapUpdate; refine wpListIn_mapUpdate_own _ rfl _ _ _ 94 rfl 3 75 law8i Try.underlying94 _ (V.heap.size + 1) pre.length D1 rfl hown1 (by unfold maxLen; omega) _ _ _ rfl rfl ki _ [] unitElem_mk ?_; intro W2 hown2 hg2; refine Hid.out ?_)
        have hS2 : VSt V l (.slice a h.length cap) (pre ++ [x]).length (endedIn h (pre ++ [x])) W2 := by
          have e : (fun t => (endedIn h pre t || decide (y1 = t ∧ (y0 = 4 ∨ y0 = 5)))) = fun t => (endedIn h pre t || decide (y1 = t)) := by
            funext t
            congr 1
            rw [decide_eq_decide]
            exact ⟨fun hh => hh.1, fun hh => ⟨hh, HM.out⟩⟩
          rw [LX.out, HE.out, e]
          exact hS1.turn hg2 (ISet.put hD1 hown1.isMap y1 hown2)
        have j2 : J (livF h pre) W2 := hJ _ _ _ _ j1 hg2 (fun r e => by
          cases e
          obtain ⟨es, cl, hb, _⟩ := hown1
          exact ⟨by omega, _, hb, rfl⟩)
        have x2 : SBox W2 Bx 48 _ := (hg2.block Bx x1.lt (by simp; omega)).trans x1
        have KK : KeepsFrom W0.heap.size W W2 := by
          have hw0 := HW0.out
          exact ((keeps_of_below bW1).from _).trans (KeepsFrom.of_grownBy hg2 (fun j e => by cases e; omega))
        have BB : Below w0.heap.size W W2 := (bW1.mono (by omega)).grown hg2 (by omega) (fun k e => by cases e; omega)
        have EB : W2.heap[V.heap.size + 1 + 1 + 1]? = W.heap[V.heap.size + 1 + 1 + 1]? := (hg2.block _ (by omega) (fun e => by have := Option.some.inj e; omega)).trans (bW1.block _ (by omega))
        clear hS1 j1 x1 bW1 b1 c2 r0 r1 r2 r3 hown1 hD1 hown2 hg2 hS hj bU HM
        obtain ⟨fn, tmps, assign, body, hy, hR⟩ := yield_any (5 - 1 - 1 - 1) (hY _ x W2 j2 (by have := livF_len h pre; omega) hS2.size)
        have hyx := HY.out
        have hix := HI.out
        simp only [ixV, evW, hyx] at hy
        rw [hix] at hy
        clear hyx hix
        have r0 := x2.cell 0 _ rfl
        have r1 := x2.cell 1 _ rfl
        have r2 := x2.cell 2 _ rfl
        have r3 := x2.cell 3 _ rfl
        have cy := hS2.by_.cell
        refine Lib.hid ?_
        gi_wp2
        refine RoundIn.mono (show RoundIn (Fence.wide.inRound l') _ _ _ _ _ _ _ _ _ from hR) ?_
        rintro e W3 (⟨rfl, hJ3, hk3, hf3⟩ | ⟨rfl, hJx3, hf3⟩)
        · have HF : Hid (KeepsFrom W0.heap.size W W3 ∧ KpE w0.heap.size (V.heap.size + 1 + 1 + 1) W W3 ∧ (J (livF h (pre ++ [x])) W3 ∧ VSt V l (.slice a h.length cap) (pre ++ [x]).length (endedIn h (pre ++ [x])) W3 ∧ Below V.heap.size V V)) := by
            have hw0 := HW0.out
            refine ⟨KK.trans (keeps_far hf3 (by omega)), ⟨BB.trans hk3.below, (hk3.own _ (by omega) (by omega)).trans EB⟩, by rw [HLive.out he]; exact hJ3, hS2.own hf3.size (fun j h1 h2 => hk3.own j h1 h2), Below.refl _ _⟩
          clear hS2 hk3 hf3 hJ3 HLive HE hY hJ hJx he
          gi_wp2
          exact HF.out
        · have hlv := HLive.out he
          have hw0 := HW0.out
          have HF : Hid (KeepsFrom W0.heap.size W W3 ∧ Jx (livF h (pre ++ [x])) W3) := ⟨KK.trans (keeps_far hf3 (by omega)), by rw [hlv]; exact hJx3⟩
          clear hS2 hf3 hJx3 HLive HE hY hJ hJx he hlv hw0
          gi_wp2
          exact ⟨HF.out.1, rfl, HF.out.2⟩
      · rw [decide_eq_false hm] at C
        have HM : Hid (¬ (y0 = 4 ∨ y0 = 5)) := hm
        clear hm
        gi_wp2_with (first
          | (gi_at_lookup; refine wpListIn_lookup_own_unit _ rfl _ _ 94 rfl 3 75 law8i Try.underlying94 (zero8u _) (V.heap.size + 1) pre.length D rfl hown _ _ rfl ki ?_; rw [hDy])
          | ((try refine ⟨trivial, ?_⟩); gi_at_call 56; refine (CallsIn.inRound l' (callsIn_wide.2 C)).mono ?_; clear C; rintro e W2 ⟨rfl, b1⟩; refine Hid.out ?_))
        have bW1 : Below W.heap.size W W2 := bU.trans (b1.mono (by simp))
        have s1 := bW1.size
        have hS2 : VSt V l (.slice a h.length cap) (pre ++ [x]).length (endedIn h (pre ++ [x])) W2 := by
          have e : (fun t => (endedIn h pre t || decide (y1 = t ∧ (y0 = 4 ∨ y0 = 5)))) = endedIn h pre := by
            funext t
            rw [decide_eq_false (fun hh => HM.out hh.2), Bool.or_false]
          have hS1 := hS.bel (bW1.mono hsz)
          rw [LX.out, HE.out, e]
          exact ⟨hS1.size, hS1.by_, hS1.bm.mono (Nat.le_succ _), hS1.bb, hS1.be⟩
        have j2 : J (livF h pre) W2 := own_step hJ hj bW1
        have x2 : SBox W2 Bx 48 _ := hblk.below bW1
        have KK : KeepsFrom W0.heap.size W W2 := (keeps_of_below bW1).from _
        have BB : Below w0.heap.size W W2 := bW1.mono (by omega)
        have EB : W2.heap[V.heap.size + 1 + 1 + 1]? = W.heap[V.heap.size + 1 + 1 + 1]? := bW1.block _ (by omega)
        clear hD hown hDy q0 q1 q2 q3 q0' q1' q2' q3' c1 bW1 b1 hS hj bU HM
        obtain ⟨fn, tmps, assign, body, hy, hR⟩ := yield_any (5 - 1 - 1 - 1) (hY _ x W2 j2 (by have := livF_len h pre; omega) hS2.size)
        have hyx := HY.out
        have hix := HI.out
        simp only [ixV, evW, hyx] at hy
        rw [hix] at hy
        clear hyx hix
        have r0 := x2.cell 0 _ rfl
        have r1 := x2.cell 1 _ rfl
        have r2 := x2.cell 2 _ rfl
        have r3 := x2.cell 3 _ rfl
        have cy := hS2.by_.cell
        refine Lib.hid ?_
        gi_wp2
        refine RoundIn.mono (show RoundIn (Fence.wide.inRound l') _ _ _ _ _ _ _ _ _ from hR) ?_
        rintro e W3 (⟨rfl, hJ3, hk3, hf3⟩ | ⟨rfl, hJx3, hf3⟩)
        · have HF : Hid (KeepsFrom W0.heap.size W W3 ∧ KpE w0.heap.size (V.heap.size + 1 + 1 + 1) W W3 ∧ (J (livF h (pre ++ [x])) W3 ∧ VSt V l (.slice a h.length cap) (pre ++ [x]).length (endedIn h (pre ++ [x])) W3 ∧ Below V.heap.size V V)) := by
            have hw0 := HW0.out
            refine ⟨KK.trans (keeps_far hf3 (by omega)), ⟨BB.trans hk3.below, (hk3.own _ (by omega) (by omega)).trans EB⟩, by rw [HLive.out he]; exact hJ3, hS2.own hf3.size (fun j h1 h2 => hk3.own j h1 h2), Below.refl _ _⟩
          clear hS2 hk3 hf3 hJ3 HLive HE hY hJ hJx he
          gi_wp2
          exact HF.out
        · have hlv := HLive.out he
          have hw0 := HW0.out
          have HF : Hid (KeepsFrom W0.heap.size W W3 ∧ Jx (livF h (pre ++ [x])) W3) := ⟨KK.trans (keeps_far hf3 (by omega)), by rw [hlv]; exact hJx3⟩
          clear hS2 hf3 hJx3 HLive HE hY hJ hJx he hlv hw0
          gi_wp2
          exact ⟨HF.out.1, rfl, HF.out.2⟩
  case done =>
    rintro D ys W hD rfl ⟨hj, hS, _⟩ hK
    have HD : Hid (V.heap.size + 1 + 1 + 1 + 1 ≤ D) := by rw [sW0] at hD; exact hD
    clear sW0 hS0 hD
    gi_wp2
    refine ⟨by simp, .inl ⟨_, _, rfl, run_takeDeferred hK, ?_⟩⟩
    exact ⟨_, results_none rfl _ _ _, ⟨_, rfl⟩, .inl ⟨_, rfl, hJ.putObj _ hj (by have := HD.out; omega) hK rfl⟩⟩
  case stop =>
    rintro D c pre W hD hSp ⟨rfl, hj⟩ hK
    have HD : Hid (V.heap.size + 1 + 1 + 1 + 1 ≤ D) := by rw [sW0] at hD; exact hD
    clear sW0 hS0 hD
    gi_wp2
    refine ⟨by simp, .inl ⟨_, _, rfl, run_takeDeferred hK, ?_⟩⟩
    exact ⟨_, results_none rfl _ _ _, ⟨_, rfl⟩, .inr ⟨_, livF_prefix h hSp, hJx.putObj _ hj (by have := HD.out; omega) hK rfl⟩⟩
theorem living8_stops (h : List Ev) (w0 : World) (a : Option Addr) (cap : Nat) (hT : IsEvs w0 (.slice a h.length cap) h) (hG : ∀ x ∈ h, goodE x) (hn : h.length ≤ 300) (bh k l : Nat) (w V : World) (hW : Below w0.heap.size w0 w) (hbox : Boxed w bh 22 (.slice a h.length cap)) (hV : Below w.heap.size w V) :
    SeqStopsW Fence.wide k Try.prog 70 #[.pointer (some ⟨bh, 0, none⟩)] (fun x : Fin h.length => ixV h x) (KpL w0.heap.size bh V.heap.size) (fun ys => ys = livP h) (fun pre => pre <+: livP h) h.length (V.heap.size + 1 + 1 + 1 + 1) l V :=
  fun J Jx hJ hJx hY h0 => living8_in h w0 a cap hT hG hn bh k l V (hW.trans (hV.mono hW.size)) (boxed_below7 hbox hV) J Jx hJ hJx hY h0
end Go.Proofs.Yteehpkkkagdckaa
namespace Go.Proofs.Yteehpkkkagdckaa
set_option maxRecDepth 100000
open Go.RowKit Go.Shelf Go.Maps
set_option linter.unusedVariables false
structure ZSt (w : World) (t0 : TypeId) (v0 : Value) (t1 e k : Nat) (sl v : Value) (m : Nat) (f : Int → Option Int) (n : Nat) (xs : List Value) (W : World) : Prop where
  below : Below w.heap.size w W
  size : w.heap.size + 1 + 1 + 1 + 1 + 1 ≤ W.heap.size
  b0 : Boxed W (w.heap.size) t0 v0
  bv : Boxed W (w.heap.size + 1) t1 v
  bm : IMap W (w.heap.size + 1 + 1) m f
  bb : Boxed W (w.heap.size + 1 + 1 + 1) 81 (.map (some (w.heap.size + 1 + 1)))
  be : Boxed W (w.heap.size + 1 + 1 + 1 + 1) 22 sl
  row : W.ownsRow w.heap.size e k v n xs
  far : ∀ g, v.ownBlock = some g → w.heap.size + 1 + 1 + 1 + 1 + 1 + 1 + 1 + 1 + 1 + 1 + 1 ≤ g
section
variable {w : World} {t0 : TypeId} {v0 : Value} {t1 e k : Nat} {sl v : Value} {m : Nat} {f : Int → Option Int} {n : Nat} {xs : List Value} {W W' : World} {row : Option Nat}
theorem ZSt.turn (h : ZSt w t0 v0 t1 e k sl v m f n xs W) (hg : W.grownBy W' row) (hr : ∀ r, row = some r → w.heap.size + 1 + 1 + 1 + 1 + 1 ≤ r ∧ ∃ o : Obj, W.heap[r]? = some o ∧ o.isCells = false) : ZSt w t0 v0 t1 e k sl v m f n xs W' := by
  have o : ∀ j, j < w.heap.size + 1 + 1 + 1 + 1 + 1 → some j ≠ row := fun j hj e => by have := (hr j e.symm).1; omega
  exact ⟨h.below.grown hg (by have := h.size; omega) (fun r e => by have := (hr r e).1; omega), Nat.le_trans h.size hg.size, h.b0.kept hg (o _ (by omega)), h.bv.kept hg (o _ (by omega)), h.bm.kept hg (o _ (by omega)), h.bb.kept hg (o _ (by omega)), h.be.kept hg (o _ (by omega)), owns_turn h.row hg (fun r e => (hr r e).2), h.far⟩
theorem ZSt.bel (h : ZSt w t0 v0 t1 e k sl v m f n xs W) (hb : Below W.heap.size W W') : ZSt w t0 v0 t1 e k sl v m f n xs W' := h.turn (grown_below8 none hb) (fun r e => by cases e)
theorem ZSt.own (w : World) (t0 : TypeId) (v0 : Value) (t1 e k : Nat) (sl v : Value) (m : Nat) (f : Int → Option Int) (n : Nat) (xs : List Value) {B : Nat} (hB : w.heap.size + 1 + 1 + 1 + 1 + 1 ≤ B) {row : Option Nat} (h : ZSt w t0 v0 t1 e k sl v m f n xs W) (hg : W.grownBy W' row) (hr : ∀ r, row = some r → B ≤ r ∧ ∃ o : Obj, W.heap[r]? = some o ∧ o.isCells = false) : ZSt w t0 v0 t1 e k sl v m f n xs W' := h.turn hg (fun r e => ⟨Nat.le_trans hB (hr r e).1, (hr r e).2⟩)
theorem ZSt.map {m' : Nat} {f' : Int → Option Int} (h : ZSt w t0 v0 t1 e k sl v m f n xs W) (hg : W.grownBy W' (some (w.heap.size + 1 + 1))) (hf : IMap W' (w.heap.size + 1 + 1) m' f') : ZSt w t0 v0 t1 e k sl v m' f' n xs W' := by
  have o : ∀ j, j ≠ w.heap.size + 1 + 1 → some j ≠ some (w.heap.size + 1 + 1) := fun j hj e => hj (Option.some.inj e)
  refine ⟨h.below.grown hg (by have := h.size; omega) (fun r e => by cases e; omega), Nat.le_trans h.size hg.size, h.b0.kept hg (o _ (by omega)), h.bv.kept hg (o _ (by omega)), hf, h.bb.kept hg (o _ (by omega)), h.be.kept hg (o _ (by omega)), h.row.kept hg ?_, h.far⟩
  cases hv : v.ownBlock with
  | none => exact .inl rfl
  | some g => exact .inr (fun e => by have := h.far g hv; have := Option.some.inj e; omega)
theorem ZSt.keep (h : ZSt w t0 v0 t1 e k sl v m f n xs W) {m' : Nat} {f' : Int → Option Int} (hm : m ≤ m') (hf : f' = f) : ZSt w t0 v0 t1 e k sl v m' f' n xs W := by
  rw [hf]
  exact ⟨h.below, h.size, h.b0, h.bv, h.bm.mono hm, h.bb, h.be, h.row, h.far⟩
/-- One more in the row, and its box. -/
theorem ZSt.app {v' : Value} {n' : Nat} {ys : List Value} {tmp : Obj} (h : ZSt w t0 v0 t1 e k sl v m f n xs W) (hs : w.heap.size + 1 + 1 + 1 + 1 + 1 + 1 + 1 + 1 + 1 + 1 + 1 ≤ W.heap.size) (hown : W'.ownsRow w.heap.size e k v' n' ys) (hg : (W.alloc tmp).grownBy W' v.ownBlock) (hat : v'.ownBlock = v.ownBlock ∨ v'.ownBlock = some (W.heap.size + 1)) :
    ZSt w t0 v0 t1 e k sl v' m f n' ys (W'.setCell ⟨w.heap.size + 1, 0, none⟩ v') := by
  have hfar : ∀ g, v'.ownBlock = some g → w.heap.size + 1 + 1 + 1 + 1 + 1 + 1 + 1 + 1 + 1 + 1 + 1 ≤ g := fun g hv => by
    rcases hat with e | e
    · exact h.far g (by rw [← e]; exact hv)
    · rw [hv] at e
      have := Option.some.inj e
      omega
  have o : ∀ j, j < w.heap.size + 1 + 1 + 1 + 1 + 1 → some j ≠ v.ownBlock := fun j hj e => by have := h.far j e.symm; omega
  have hsz := hg.size
  rw [World.size_alloc] at hsz
  have hb : Below w.heap.size w W' := (h.below.alloc h.below.size _).grown hg (by simp; have := h.size; omega) (fun r e => by have := h.far r e; omega)
  refine ⟨hb.setCell (p := ⟨w.heap.size + 1, 0, none⟩) (by first | (simp; done) | (simp; omega)) _, by simp; omega, ((h.b0.alloc _).kept hg (o _ (by omega))).other (by omega) _, ((h.bv.alloc _).kept hg (o _ (by omega))).set _, ?_, ((h.bb.alloc _).kept hg (o _ (by omega))).other (by omega) _, ((h.be.alloc _).kept hg (o _ (by omega))).other (by omega) _, owns_keep7 (g := w.heap.size + 1) (j := 0) hown _ (fun e => by have := hfar _ e.symm; omega), hfar⟩
  refine IMap.same (W := W') ((h.bm.kept (World.grownBy_alloc _ tmp none) (by simp)).kept hg (o _ (by omega))) ?_
  exact Below.heap_setCell _ _ _ _ (by simp)
end
theorem kpL_grown {n b A : Nat} {W W' : World} {row : Option Nat} (hn : n ≤ W.heap.size) (hb : b < W.heap.size) (hA : A + 1 + 1 + 1 + 1 ≤ W.heap.size) (hg : W.grownBy W' row) (hr : ∀ r, row = some r → n ≤ r ∧ r ≠ b ∧ (r < A ∨ A + 1 + 1 + 1 + 1 ≤ r)) : KpL n b A W W' :=
  ⟨(Below.refl n W).grown hg hn (fun r e => (hr r e).1), hg.block b hb (fun e => (hr b e.symm).2.1 rfl), fun j h1 h2 => hg.block j (by omega) (fun e => by have := (hr j e.symm).2.2; omega)⟩
theorem kpL_bel {n b A : Nat} {W W' : World} (hn : n ≤ W.heap.size) (hb : b < W.heap.size) (hA : A + 1 + 1 + 1 + 1 ≤ W.heap.size) (h : Below W.heap.size W W') : KpL n b A W W' := kpL_grown hn hb hA (grown_below8 none h) (fun r e => by cases e)
theorem kpL_put {n b A l : Nat} {W : World} (hn : n ≤ l) (hb : b < l) (hl : l < A) (o : Loop) (h : W.heap[l]? = some (.loop o)) (o' : Loop) : KpL n b A W (W.putObj l (.loop o')) := by
  have hlt : l < W.heap.size := (Array.getElem?_eq_some_iff.1 h).1
  refine ⟨(Below.refl n W).grown (grownBy_putObj' W l _) (by omega) (fun r e => by cases e; exact hn), World.putObj_heap_other (by omega), fun j h1 h2 => World.putObj_heap_other (by omega)⟩
end Go.Proofs.Yteehpkkkagdckaa
