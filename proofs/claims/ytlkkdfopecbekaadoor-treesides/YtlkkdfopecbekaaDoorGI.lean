/-
  What tree.leafInput, nodeInput, rootInput, Leaf, Node, isPlace and half answer.
  What math/bits.Len64, Len and tree.half answer.
-/
import Derived.Test.YtlkkdfopecbekaaDoorZP2Fold
import Derived.Test.YtlkkdfopecbekaaDoorZFNum
import Derived.Test.YtlkkdfopecbekaaDoorGA
namespace Go.Proofs.YtlkkdfopecbekaaDoor
set_option maxRecDepth 100000
open Go.RowKit
set_option linter.unusedVariables false
attribute [local go_sem] ba_size ba_get ba_extract ba_append take_drop_end
theorem psumL_any (S : List UInt8) (hS : S.length ≤ 9223372036854775000) (w : World) (hG : G w) :
    Calls Tryd.prog 32 #[.string ⟨S.toArray⟩] w fun e w' => e = .returned (.string ⟨(sumL S).toArray⟩) ∧ Below w.heap.size w w' := sum_any S hS w hG
set_option maxHeartbeats 400000 in
theorem pleafIn_any (s : List UInt8) (hs : s.length ≤ 1125899906842624) (w : World) :
    Calls Tryd.prog 40 #[.string ⟨s.toArray⟩] w fun e w' => e = .returned (.string ⟨(leafI s).toArray⟩) ∧ w' = w := by
  go_enter Tryd.func40, Tryd.ntmps40
  go_wp2
  go_ret
  exact ⟨rfl, rfl⟩
set_option maxHeartbeats 400000 in
theorem pnodeIn_any (a b : List UInt8) (ha : a.length ≤ 1125899906842624) (hb : b.length ≤ 1125899906842624) (w : World) :
    Calls Tryd.prog 42 #[.string ⟨a.toArray⟩, .string ⟨b.toArray⟩] w fun e w' => e = .returned (.string ⟨(nodeI a b).toArray⟩) ∧ w' = w := by
  have h1 : 1 + a.length + b.length ≤ 9223372036854775807 := by omega
  go_enter Tryd.func42, Tryd.ntmps42
  go_wp2
  go_ret
  exact ⟨rfl, rfl⟩
set_option maxHeartbeats 400000 in
theorem prootIn_any (n : Nat) (hn : n ≤ 140737488351232) (c : List UInt8) (hc : c.length ≤ 32) (w : World) :
    Calls Tryd.prog 34 #[.int .i64 n, .string ⟨c.toArray⟩] w fun e w' => e = .returned (.string ⟨(rootI n c).toArray⟩) ∧ Below w.heap.size w w' := by
  have x1 : IntKind.u64.wrap (n : Int) = n := by rw [IntKind.wrap_u64]; omega
  have hl := Lm.numL_length n
  have hcn : Lm.cnt n ≤ 8 := Lm.cnt_le n
  obtain ⟨N, hN⟩ : ∃ N, Lm.numL n = N := ⟨_, rfl⟩
  have hc1 := num_any n (by omega) w
  rw [hN] at hc1 hl
  have hl1 : 1 + N.length ≤ 9223372036854775807 := by omega
  have hl2 : 1 + N.length + c.length ≤ 9223372036854775807 := by omega
  go_enter Tryd.func34, Tryd.ntmps34
  go_wp2_with fail
  refine hc1.mono ?_
  rintro e w1 ⟨rfl, hb1⟩
  go_wp2_with fail
  go_ret
  exact ⟨by unfold rootI; rw [hN]; rfl, hb1⟩
set_option maxHeartbeats 400000 in
theorem pleaf_any (s : List UInt8) (hs : s.length ≤ 1125899906842624) (w : World) (hG : G w) :
    Calls Tryd.prog 19 #[.string ⟨s.toArray⟩] w fun e w' => e = .returned (.string ⟨(sumL (leafI s)).toArray⟩) ∧ Below w.heap.size w w' := by
  have h1 := psumL_any (leafI s) (by unfold leafI; simp; omega) w hG
  obtain ⟨x, hx⟩ : ∃ x, sumL (leafI s) = x := ⟨_, rfl⟩
  rw [hx] at h1 ⊢
  go_enter Tryd.func19, Tryd.ntmps19
  go_wp2_with fail
  refine (pleafIn_any s hs w).mono ?_
  rintro e w1 ⟨rfl, rfl⟩
  go_wp2_with fail
  refine h1.mono ?_
  rintro e w2 ⟨rfl, hb2⟩
  go_wp2_with fail
  go_ret
  exact ⟨rfl, hb2⟩
set_option maxHeartbeats 400000 in
theorem pnode_any (a b : List UInt8) (ha : a.length ≤ 1125899906842624) (hb : b.length ≤ 1125899906842624) (w : World) (hG : G w) :
    Calls Tryd.prog 21 #[.string ⟨a.toArray⟩, .string ⟨b.toArray⟩] w fun e w' => e = .returned (.string ⟨(sumL (nodeI a b)).toArray⟩) ∧ Below w.heap.size w w' := by
  have h1 := psumL_any (nodeI a b) (by unfold nodeI; simp; omega) w hG
  obtain ⟨x, hx⟩ : ∃ x, sumL (nodeI a b) = x := ⟨_, rfl⟩
  rw [hx] at h1 ⊢
  go_enter Tryd.func21, Tryd.ntmps21
  go_wp2_with fail
  refine (pnodeIn_any a b ha hb w).mono ?_
  rintro e w1 ⟨rfl, rfl⟩
  go_wp2_with fail
  refine h1.mono ?_
  rintro e w2 ⟨rfl, hb2⟩
  go_wp2_with fail
  go_ret
  exact ⟨rfl, hb2⟩
set_option maxHeartbeats 400000 in
theorem pisPlace_any (n i : Int) (w : World) :
    Calls Tryd.prog 37 #[.int .i64 n, .int .i64 i] w fun e w' => e = .returned (.bool (decide (0 ≤ i ∧ i < n))) ∧ w' = w := by
  by_cases h0 : 0 ≤ i
  · have h1 : decide (0 ≤ i ∧ i < n) = decide (i < n) := by simp [h0]
    rw [h1]
    clear h1
    go_enter Tryd.func37, Tryd.ntmps37
    go_wp2
    go_ret
    exact ⟨rfl, rfl⟩
  · have h1 : decide (0 ≤ i ∧ i < n) = false := by simp [h0]
    rw [h1]
    clear h1
    go_enter Tryd.func37, Tryd.ntmps37
    go_wp2
    go_ret
    exact ⟨rfl, rfl⟩
/-- The least number of bits that hold a number. -/
def ln (x : Nat) : Nat := if x = 0 then 0 else x.log2 + 1
theorem hf_ln : ∀ n, n < 4097 → 2 ≤ n → hf n = 2 ^ (ln (n - 1) - 1) ∧ 1 ≤ ln (n - 1) ∧ ln (n - 1) ≤ 12 := by decide +kernel
end Go.Proofs.YtlkkdfopecbekaaDoor
namespace Go.Proofs.YtlkkdfopecbekaaDoor
set_option maxRecDepth 100000
open Go.RowKit
set_option linter.unusedVariables false
def tabL : List UInt8 := (List.range 256).map fun x => UInt8.ofNat (ln x)
theorem tab_eq : ([0, 1, 2, 2, 3, 3, 3, 3, 4, 4, 4, 4, 4, 4, 4, 4, 5, 5, 5, 5, 5, 5, 5, 5, 5, 5, 5, 5, 5, 5, 5, 5, 6, 6, 6, 6, 6, 6, 6, 6, 6, 6, 6, 6, 6, 6, 6, 6, 6, 6, 6, 6, 6, 6, 6, 6, 6, 6, 6, 6, 6, 6, 6, 6, 7, 7, 7, 7, 7, 7, 7, 7, 7, 7, 7, 7, 7, 7, 7, 7, 7, 7, 7, 7, 7, 7, 7, 7, 7, 7, 7, 7, 7, 7, 7, 7, 7, 7, 7, 7, 7, 7, 7, 7, 7, 7, 7, 7, 7, 7, 7, 7, 7, 7, 7, 7, 7, 7, 7, 7, 7, 7, 7, 7, 7, 7, 7, 7, 8, 8, 8, 8, 8, 8, 8, 8, 8, 8, 8, 8, 8, 8, 8, 8, 8, 8, 8, 8, 8, 8, 8, 8, 8, 8, 8, 8, 8, 8, 8, 8, 8, 8, 8, 8, 8, 8, 8, 8, 8, 8, 8, 8, 8, 8, 8, 8, 8, 8, 8, 8, 8, 8, 8, 8, 8, 8, 8, 8, 8, 8, 8, 8, 8, 8, 8, 8, 8, 8, 8, 8, 8, 8, 8, 8, 8, 8, 8, 8, 8, 8, 8, 8, 8, 8, 8, 8, 8, 8, 8, 8, 8, 8, 8, 8, 8, 8, 8, 8, 8, 8, 8, 8, 8, 8, 8, 8, 8, 8, 8, 8, 8, 8, 8, 8, 8, 8, 8, 8, 8, 8, 8, 8, 8, 8, 8, 8] : List UInt8) = tabL := by decide +kernel
theorem tab_at : ∀ x, x < 256 → (tabL[x]?.getD 0).toNat = ln x ∧ ln x ≤ 8 := by decide +kernel
theorem tab_get (x : Nat) (h : x < tabL.length) : (tabL[x]'h).toNat = ln x := by
  have hx : x < 256 := by simpa [tabL] using h
  have := (tab_at x hx).1
  rw [List.getElem?_eq_getElem h] at this
  exact this
theorem tab_ret (x : Nat) (h : x < tabL.length) : wrap64 (wrap64 ((tabL[x]'h).toNat : Int)) = ln x := by
  have hx : x < 256 := by simpa [tabL] using h
  have := (tab_at x hx).2
  rw [tab_get]; unfold wrap64; omega
attribute [local go_sem] ba_size ba_get in
set_option maxHeartbeats 1000000 in
theorem plen64_small (x : Nat) (hx : x < 256) (w : World) :
    Calls Tryd.prog 81 #[.int .u64 x] w fun e w' => e = .returned (.int .i64 (ln x)) ∧ w' = w := by
  have i0 : ¬ (4294967296 : Int) ≤ (x : Int) := by omega
  have i1 : ¬ (65536 : Int) ≤ (x : Int) := by omega
  have i2 : ¬ (256 : Int) ≤ (x : Int) := by omega
  go_enter Tryd.func81, Tryd.ntmps81
  go_wp2
  go_ret
  refine ⟨?_, rfl⟩
  simp only [tab_eq, tab_ret]
  rfl
theorem ln_256 : ∀ x, x < 4096 → 256 ≤ x → ln x = 8 + ln (x / 256) ∧ ln x ≤ 12 := by decide +kernel
set_option maxHeartbeats 1000000 in
theorem plen64_int (x : Int) (h1 : 256 ≤ x) (hx : x < 4096) (w : World) :
    Calls Tryd.prog 81 #[.int .u64 x] w fun e w' => e = .returned (.int .i64 (ln x.toNat)) ∧ w' = w := by
  go_enter Tryd.func81, Tryd.ntmps81
  go_wp2
  go_ret
  refine ⟨congrArg Ending.returned (congrArg (Value.int IntKind.i64) ?_), rfl⟩
  simp only [ba_get, tab_eq, tab_get]
  have e : (x / 256).toNat = x.toNat / 256 := by omega
  have l := ln_256 x.toNat (by omega) (by omega)
  rw [e]
  unfold wrap64; omega
theorem plen64_any (x : Nat) (hx : x < 4096) (w : World) :
    Calls Tryd.prog 81 #[.int .u64 x] w fun e w' => e = .returned (.int .i64 (ln x)) ∧ w' = w := by
  by_cases h : x < 256
  · exact plen64_small x h w
  · exact plen64_int (x : Int) (by omega) (by omega) w
set_option maxHeartbeats 400000 in
theorem plen_any (x : Nat) (hx : x < 4096) (w : World) :
    Calls Tryd.prog 70 #[.int .u64 x] w fun e w' => e = .returned (.int .i64 (ln x)) ∧ w' = w := by
  go_enter Tryd.func70, Tryd.ntmps70
  go_wp2_with fail
  refine (plen64_any x hx w).mono ?_
  rintro e w1 ⟨rfl, rfl⟩
  go_wp2_with fail
  go_ret
  exact ⟨rfl, rfl⟩
theorem shl_ln : ∀ a : Nat, a < 12 → wrap64 (2 ^ a) = ((2 ^ a : Nat) : Int) := by decide +kernel
set_option maxHeartbeats 400000 in
theorem phalf_any (n : Nat) (h2 : 2 ≤ n) (hn : n ≤ 4096) (w : World) :
    Calls Tryd.prog 55 #[.int .i64 n] w fun e w' => e = .returned (.int .i64 (hf n)) ∧ w' = w := by
  obtain ⟨e1, e2, e3⟩ := hf_ln n (by omega) h2
  have hL := plen_any (n - 1) (by omega) w
  rw [show (((n - 1 : Nat)) : Int) = (n : Int) - 1 by omega] at hL
  obtain ⟨a, ha⟩ : ∃ a, ln (n - 1) = a + 1 := ⟨ln (n - 1) - 1, by omega⟩
  rw [ha] at hL e1 e2 e3
  rw [Nat.add_sub_cancel] at e1
  rw [e1]
  have x0 : IntKind.i64.wrap ((n : Int) - 1) = (n : Int) - 1 := by rw [IntKind.wrap_i64]; omega
  have x1 : IntKind.u64.wrap ((n : Int) - 1) = (n : Int) - 1 := by rw [IntKind.wrap_u64]; omega
  clear e1 ha
  go_enter Tryd.func55, Tryd.ntmps55
  go_wp2_with fail
  refine hL.mono ?_
  rintro e w1 ⟨rfl, rfl⟩
  go_wp2_with fail
  go_ret
  exact ⟨congrArg Ending.returned (congrArg (Value.int IntKind.i64) (shl_ln a (by omega))), rfl⟩
end Go.Proofs.YtlkkdfopecbekaaDoor
