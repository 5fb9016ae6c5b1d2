/-
  What tree.sides tells, whatever is done with it: tellSides, the closure, sides.
-/
import Derived.Test.YtlkkdfopecbekaaDoorGI
import Derived.Test.YtlkkdfopecbekaaDoorGA
import Derived.RangeFuncNested
import Derived.RangeFuncBound
import Derived.RangeFuncCalls
import Derived.RangeFuncLeaves
import Derived.RangeFuncBox
import Derived.Shelf.Abstract
import Derived.Shelf.RegionOpen
import Derived.OwnWalkIn
import Derived.TacticsInMore
import Derived.LoopNIn
import Derived.LoopIn
namespace Go.Proofs.YtlkkdfopecbekaaDoor
set_option maxRecDepth 100000
open Go.RowKit Go.Shelf
set_option linter.unusedVariables false
attribute [local go_sem] Oper.semAt_some
theorem room_of_none {F : Fence} (hd : F.depth = none) (k : Nat) : F.room k := fun d h => by rw [hd] at h; cases h
theorem round_anyDepth {F : Fence} (hd : F.depth = none) {m m' : Nat} {P : Program} {l : Nat} {f : FuncId} {tmps : Array Value} {assign body : Code} {w : World} {R : Ending → World → Prop}
    (h : RoundIn F m P l f tmps assign body w R) : RoundIn F m' P l f tmps assign body w R := ⟨h.1, fun c cs _ => h.2 c cs (room_of_none hd _)⟩
theorem yield_anyDepth {F : Fence} (hd : F.depth = none) {m : Nat} (m' : Nat) {P : Program} {l : Nat} {args : Array Value} {W : World} {R : Ending → World → Prop} (h : YieldAt F m P l args W R) : YieldAt F m' P l args W R := by
  obtain ⟨fn, tmps, assign, body, hy, hR⟩ := h
  exact ⟨fn, tmps, assign, body, hy, round_anyDepth hd hR⟩
/-- A side as it is handed to a round. -/
abbrev sideV {n : Nat} (x : Side n) : Array Value := #[.agg #[.int .i64 x.a, .int .i64 x.b, .bool x.r]]
set_option maxHeartbeats 2000000 in
theorem tell_in (l n N : Nat) (hn : n ≤ 4096) (J Jx : List (Side n) → World → Prop)
    (hY : ∀ m pre x W, J pre W → pre.length < N → YieldAt Fence.wide m Tryd.prog l (sideV x) W fun e W' => (e = .returned (.bool true) ∧ J (pre ++ [x]) W') ∨ (e = .returned (.bool false) ∧ Jx (pre ++ [x]) W')) :
    ∀ (d a b i : Nat) (h : b ≤ n) (k : Nat) (pre : List (Side n)) (W : World), b - a = d → a ≤ b → i ≤ 4096 → J pre W → pre.length + (sidesS n a b i h).length ≤ N →
      CallsIn Fence.wide k Tryd.prog 60 #[.int .i64 a, .int .i64 b, .int .i64 i, .func (.yield l) #[] #[]] W fun e W' =>
        (e = .returned (.bool true) ∧ J (pre ++ sidesS n a b i h) W') ∨ (e = .returned (.bool false) ∧ ∃ q, q <+: sidesS n a b i h ∧ Jx (pre ++ q) W') := by
  intro d
  induction d using Nat.strongRecOn with
  | _ d ih =>
    intro a b i h k pre W hd hab hi4 hJ hN
    have hdd : ∀ k : Nat, (Fence.wide.depth.isSome = true → 1 ≤ k) := fun k h => by cases h
    have x0 : IntKind.i64.wrap ((b : Int) - (a : Int)) = (b : Int) - (a : Int) := by rw [IntKind.wrap_i64]; omega
    by_cases h1 : b - a ≤ 1
    · have HE : Hid (sidesS n a b i h = []) := sidesS_nil n a b i h h1
      have i0 : (b : Int) - (a : Int) ≤ 1 := by omega
      clear ih hN hd
      refine callsIn_of_wp Tryd.func60 rfl trivial ?_ rfl
      simp only [Tryd.ntmps60, List.size_toArray, List.length_cons, List.length_nil, Nat.reduceAdd, Nat.reduceSub, Array.replicate_succ, Array.replicate_zero, List.push_toArray, List.append_toArray, List.nil_append, List.cons_append]
      gi_wp2
      go_ret
      exact .inl ⟨rfl, by rw [HE.out, List.append_nil]; exact hJ⟩
    · have hm := mid_le a b h1
      have hps := hf_pos (b - a)
      have hH := fun w1 => phalf_any (b - a) (by omega) (by omega) w1
      rw [show (((b - a : Nat)) : Int) = (b : Int) - (a : Int) by omega] at hH
      have i0 : ¬ (b : Int) - (a : Int) ≤ 1 := by omega
      by_cases hi : i < a + hf (b - a)
      · have HE : Hid (sidesS n a b i h = sidesS n a (a + hf (b - a)) i (by omega) ++ [⟨a + hf (b - a), b, true, by omega, h⟩]) := sidesS_left n a b i h h1 hi _ _
        rw [HE.out] at hN
        have ih1 := ih (hf (b - a)) (by omega) a (a + hf (b - a)) i (by omega) (k - 1) pre W (by omega) (by omega) hi4 hJ (by simp at hN; omega)
        have hy2 := fun W1 (hJ1 : J (pre ++ sidesS n a (a + hf (b - a)) i (by omega)) W1) => hY (k - 1) _ ⟨a + hf (b - a), b, true, by omega, h⟩ W1 hJ1 (by simp at hN ⊢; omega)
        obtain ⟨X, hX⟩ : ∃ X, sidesS n a (a + hf (b - a)) i (by omega) = X := ⟨_, rfl⟩
        rw [hX] at HE ih1 hy2
        obtain ⟨s, hs⟩ : ∃ s : Side n, s = ⟨a + hf (b - a), b, true, by omega, h⟩ := ⟨_, rfl⟩
        rw [← hs] at HE hy2
        have hy3 : ∀ W1, J (pre ++ X) W1 → YieldAt Fence.wide (k - 1) Tryd.prog l #[.agg #[.int .i64 ((a : Int) + (hf (b - a) : Int)), .int .i64 b, .bool true]] W1 fun e W' => (e = .returned (.bool true) ∧ J (pre ++ X ++ [s]) W') ∨ (e = .returned (.bool false) ∧ Jx (pre ++ X ++ [s]) W') := fun W1 hJ1 => by
          have := hy2 W1 hJ1
          rw [hs] at this ⊢
          exact this
        clear hy2 hs hX ih hd hN
        rw [show (((a + hf (b - a) : Nat)) : Int) = (a : Int) + (hf (b - a) : Int) by omega] at ih1
        have j0 : (i : Int) < (a : Int) + (hf (b - a) : Int) := by omega
        have x1 : IntKind.i64.wrap ((a : Int) + (hf (b - a) : Int)) = (a : Int) + (hf (b - a) : Int) := by rw [IntKind.wrap_i64]; omega
        obtain ⟨m, hmm⟩ : ∃ m, hf (b - a) = m := ⟨_, rfl⟩
        rw [hmm] at hH ih1 hy3 j0 x1
        have ih1' := ih1.mono (R' := fun e W1 => (e = .returned (.bool true) ∧ YieldAt Fence.wide (k - 1) Tryd.prog l #[.agg #[.int .i64 ((a : Int) + (m : Int)), .int .i64 b, .bool true]] W1 fun e W' => (e = .returned (.bool true) ∧ J (pre ++ X ++ [s]) W') ∨ (e = .returned (.bool false) ∧ Jx (pre ++ X ++ [s]) W')) ∨ (e = .returned (.bool false) ∧ ∃ q, q <+: X ∧ Jx (pre ++ q) W1))
          (fun e W1 h => h.elim (fun ⟨he, hj⟩ => .inl ⟨he, hy3 W1 hj⟩) .inr)
        clear ih1 hy3 hmm
        refine callsIn_of_wp Tryd.func60 rfl trivial ?_ rfl
        simp only [Tryd.ntmps60, List.size_toArray, List.length_cons, List.length_nil, Nat.reduceAdd, Nat.reduceSub, Array.replicate_succ, Array.replicate_zero, List.push_toArray, List.append_toArray, List.nil_append, List.cons_append]
        gi_wp2_with (first
          | ((try refine ⟨trivial, hdd _, ?_⟩); gi_at_call 55; refine (callsIn_wide.2 (hH _)).mono ?_; rintro e w1 ⟨rfl, rfl⟩)
          | ((try refine ⟨trivial, hdd _, ?_⟩); gi_at_call 60; refine ih1'.mono ?_; clear ih1'; rintro e W1 (⟨rfl, fn, tmps, assign, body, hy, hR⟩ | ⟨rfl, q, hq, hx1⟩))
          | ((try refine ⟨hdd _, ?_⟩); refine hR.mono ?_; clear hR; rintro e W2 (⟨rfl, hJ2⟩ | ⟨rfl, hx2⟩)))
        · go_ret
          exact .inl ⟨rfl, by rw [HE.out, ← List.append_assoc]; exact hJ2⟩
        · go_ret
          exact .inr ⟨rfl, X ++ [s], by rw [HE.out]; exact List.prefix_refl _, by rw [← List.append_assoc]; exact hx2⟩
        · refine ⟨fun _ h => (by cases h), ?_⟩
          gi_wp2
          go_ret
          exact .inr ⟨rfl, q, by rw [HE.out]; exact hq.trans (List.prefix_append _ _), hx1⟩
      · have HE : Hid (sidesS n a b i h = sidesS n (a + hf (b - a)) b i h ++ [⟨a, a + hf (b - a), false, by omega, by omega⟩]) := sidesS_right n a b i h h1 hi _ _
        rw [HE.out] at hN
        have ih1 := ih (b - (a + hf (b - a))) (by omega) (a + hf (b - a)) b i h (k - 1) pre W rfl (by omega) hi4 hJ (by simp at hN; omega)
        have hy2 := fun W1 (hJ1 : J (pre ++ sidesS n (a + hf (b - a)) b i h) W1) => hY (k - 1) _ ⟨a, a + hf (b - a), false, by omega, by omega⟩ W1 hJ1 (by simp at hN ⊢; omega)
        obtain ⟨X, hX⟩ : ∃ X, sidesS n (a + hf (b - a)) b i h = X := ⟨_, rfl⟩
        rw [hX] at HE ih1 hy2
        obtain ⟨s, hs⟩ : ∃ s : Side n, s = ⟨a, a + hf (b - a), false, by omega, by omega⟩ := ⟨_, rfl⟩
        rw [← hs] at HE hy2
        have hy3 : ∀ W1, J (pre ++ X) W1 → YieldAt Fence.wide (k - 1) Tryd.prog l #[.agg #[.int .i64 a, .int .i64 ((a : Int) + (hf (b - a) : Int)), .bool false]] W1 fun e W' => (e = .returned (.bool true) ∧ J (pre ++ X ++ [s]) W') ∨ (e = .returned (.bool false) ∧ Jx (pre ++ X ++ [s]) W') := fun W1 hJ1 => by
          have := hy2 W1 hJ1
          rw [hs] at this ⊢
          exact this
        clear hy2 hs hX ih hd hN
        rw [show (((a + hf (b - a) : Nat)) : Int) = (a : Int) + (hf (b - a) : Int) by omega] at ih1
        have j0 : ¬ (i : Int) < (a : Int) + (hf (b - a) : Int) := by omega
        have x1 : IntKind.i64.wrap ((a : Int) + (hf (b - a) : Int)) = (a : Int) + (hf (b - a) : Int) := by rw [IntKind.wrap_i64]; omega
        obtain ⟨m, hmm⟩ : ∃ m, hf (b - a) = m := ⟨_, rfl⟩
        rw [hmm] at hH ih1 hy3 j0 x1
        have ih1' := ih1.mono (R' := fun e W1 => (e = .returned (.bool true) ∧ YieldAt Fence.wide (k - 1) Tryd.prog l #[.agg #[.int .i64 a, .int .i64 ((a : Int) + (m : Int)), .bool false]] W1 fun e W' => (e = .returned (.bool true) ∧ J (pre ++ X ++ [s]) W') ∨ (e = .returned (.bool false) ∧ Jx (pre ++ X ++ [s]) W')) ∨ (e = .returned (.bool false) ∧ ∃ q, q <+: X ∧ Jx (pre ++ q) W1))
          (fun e W1 h => h.elim (fun ⟨he, hj⟩ => .inl ⟨he, hy3 W1 hj⟩) .inr)
        clear ih1 hy3 hmm
        refine callsIn_of_wp Tryd.func60 rfl trivial ?_ rfl
        simp only [Tryd.ntmps60, List.size_toArray, List.length_cons, List.length_nil, Nat.reduceAdd, Nat.reduceSub, Array.replicate_succ, Array.replicate_zero, List.push_toArray, List.append_toArray, List.nil_append, List.cons_append]
        gi_wp2_with (first
          | ((try refine ⟨trivial, hdd _, ?_⟩); gi_at_call 55; refine (callsIn_wide.2 (hH _)).mono ?_; rintro e w1 ⟨rfl, rfl⟩)
          | ((try refine ⟨trivial, hdd _, ?_⟩); gi_at_call 60; refine ih1'.mono ?_; clear ih1'; rintro e W1 (⟨rfl, fn, tmps, assign, body, hy, hR⟩ | ⟨rfl, q, hq, hx1⟩))
          | ((try refine ⟨hdd _, ?_⟩); refine hR.mono ?_; clear hR; rintro e W2 (⟨rfl, hJ2⟩ | ⟨rfl, hx2⟩)))
        · go_ret
          exact .inl ⟨rfl, by rw [HE.out, ← List.append_assoc]; exact hJ2⟩
        · go_ret
          exact .inr ⟨rfl, X ++ [s], by rw [HE.out]; exact List.prefix_refl _, by rw [← List.append_assoc]; exact hx2⟩
        · refine ⟨fun _ h => (by cases h), ?_⟩
          gi_wp2
          go_ret
          exact .inr ⟨rfl, q, by rw [HE.out]; exact hq.trans (List.prefix_append _ _), hx1⟩
/-- The value that sides hands back. -/
abbrev sidesF (bN bI : Nat) : Value := .func (.func 59) #[] #[.pointer (some ⟨bN, 0, none⟩), .pointer (some ⟨bI, 0, none⟩)]
set_option maxHeartbeats 1000000 in
theorem sides1_in (l n i : Nat) (hn : n ≤ 4096) (hi : i ≤ 4096) (bN bI k : Nat) (J Jx : List (Side n) → World → Prop)
    (hY : ∀ pre x W, J pre W → pre.length < (sidesS n 0 n i (Nat.le_refl _)).length → YieldAt Fence.wide (k - 1) Tryd.prog l (sideV x) W fun e W' => (e = .returned (.bool true) ∧ J (pre ++ [x]) W' ∧ True) ∨ (e = .returned (.bool false) ∧ Jx (pre ++ [x]) W'))
    (W : World) (cN : W.cell? ⟨bN, 0, none⟩ = some (.int .i64 n)) (cI : W.cell? ⟨bI, 0, none⟩ = some (.int .i64 i)) (h0 : J [] W) :
    CallsIn Fence.wide k Tryd.prog 59 #[.func (.yield l) #[] #[], .pointer (some ⟨bN, 0, none⟩), .pointer (some ⟨bI, 0, none⟩)] W fun e W' => (∃ v, e = .returned v) ∧
      ((∃ ys, ys = sidesS n 0 n i (Nat.le_refl _) ∧ J ys W') ∨ (∃ pre, pre <+: sidesS n 0 n i (Nat.le_refl _) ∧ Jx pre W')) := by
  have hdd : ∀ k : Nat, (Fence.wide.depth.isSome = true → 1 ≤ k) := fun k h => by cases h
  have hp := tell_in l n (sidesS n 0 n i (Nat.le_refl _)).length hn J Jx (fun m pre x W hj hl => yield_anyDepth rfl m ((hY pre x W hj hl).mono fun e W' h => h.elim (fun h => .inl ⟨h.1, h.2.1⟩) .inr)) (n - 0) 0 n i (Nat.le_refl _) (k - 1) [] W rfl (by omega) hi h0 (by simp)
  rw [List.nil_append] at hp
  refine callsIn_of_wp Tryd.func59 rfl trivial ?_ rfl
  simp only [Tryd.ntmps59, List.size_toArray, List.length_cons, List.length_nil, Nat.reduceAdd, Nat.reduceSub, Array.replicate_succ, Array.replicate_zero, List.push_toArray, List.append_toArray, List.nil_append, List.cons_append]
  gi_wp2_with ((try refine ⟨trivial, hdd _, ?_⟩); gi_at_call 60; refine hp.mono ?_; clear hp; rintro e W1 (⟨rfl, hJ1⟩ | ⟨rfl, q, hq, hx⟩))
  · go_end0
    exact ⟨⟨_, rfl⟩, .inl ⟨_, rfl, hJ1⟩⟩
  · go_end0
    exact ⟨⟨_, rfl⟩, .inr ⟨q, hq, by simpa using hx⟩⟩
theorem sides_stops (n i : Nat) (hn : n ≤ 4096) (hi : i ≤ 4096) (bN bI k : Nat) (w : World) (lN : bN < w.heap.size) (lI : bI < w.heap.size) (cN : w.cell? ⟨bN, 0, none⟩ = some (.int .i64 n)) (cI : w.cell? ⟨bI, 0, none⟩ = some (.int .i64 i)) :
    SeqStopsK Fence.wide k Tryd.prog 59 #[.pointer (some ⟨bN, 0, none⟩), .pointer (some ⟨bI, 0, none⟩)] (fun x : Side n => sideV x) (fun _ _ => True) (fun ys => ys = sidesS n 0 n i (Nat.le_refl _)) (fun pre => pre <+: sidesS n 0 n i (Nat.le_refl _)) (sidesS n 0 n i (Nat.le_refl _)).length w :=
  fun l J Jx W hW _ _ hY h0 => sides1_in l n i hn hi bN bI k J Jx hY W ((hW.cell (p := ⟨bN, 0, none⟩) lN).trans cN) ((hW.cell (p := ⟨bI, 0, none⟩) lI).trans cI) h0
set_option maxHeartbeats 400000 in
theorem sides_any (n i : Int) (w : World) :
    Calls Tryd.prog 38 #[.int .i64 n, .int .i64 i] w fun e w' => e = .returned (sidesF w.heap.size (w.heap.size + 1)) ∧ w' = (w.alloc (.cells #[.int .i64 n] 3)).alloc (.cells #[.int .i64 i] 3) := by
  go_enter Tryd.func38, Tryd.ntmps38
  go_wp2
  go_ret
  exact ⟨rfl, rfl⟩
end Go.Proofs.YtlkkdfopecbekaaDoor
