/-
  What cartouchelaw09.shown and few answer.
-/
import Derived.Test.YtljgflgfcbmgiaaZP9C
namespace Go.Proofs.Ytljgflgfcbmgiaa
set_option maxRecDepth 100000
open Go.RowKit
set_option linter.unusedVariables false
attribute [local go_sem] ba_size
abbrev sh9 : List Ev := [(1, 1, [], []), (3, 1, [97], [120]), (1, 2, [], []), (2, 2, [97], [120]), (5, 1, [], []), (4, 2, [], [])]
theorem sh9_first : firstP sh9 = ((1, 3, 1), true) := by decide +kernel
theorem own_lit9 (w : World) (e n : Nat) (L : List Ev) (hn : L.length = n) (hs : n ≤ 1000) : (w.alloc (.cells (recV evV L).toArray e)).ownsRow w.heap.size e 4 (.slice (some ⟨w.heap.size, 0, none⟩) n n) n (recV evV L) :=
  ⟨by rw [recV_length evV_len, hn], .inr ⟨w.heap.size, n, _, rfl, Nat.le_refl _, SBox.new w e _, Nat.le_refl _, by unfold maxLen; omega, by rw [List.size_toArray, recV_length evV_len, hn], by rw [List.toList_toArray, List.take_of_length_le (by rw [recV_length evV_len, hn]; exact Nat.le_refl _)]⟩⟩
set_option maxHeartbeats 1000000 in
theorem shown9_any (C : P9C) (w : World) : Calls Try.prog 9 #[] w fun e w' => e = .returned (.bool true) ∧ Below w.heap.size w w' := by
  have O1 : (w.alloc (.cells #[.int .i64 1, .int .i64 1, .string ⟨#[]⟩, .string ⟨#[]⟩, .int .i64 3, .int .i64 1, .string ⟨#[97]⟩, .string ⟨#[120]⟩, .int .i64 1, .int .i64 2, .string ⟨#[]⟩, .string ⟨#[]⟩, .int .i64 2, .int .i64 2, .string ⟨#[97]⟩, .string ⟨#[120]⟩, .int .i64 5, .int .i64 1, .string ⟨#[]⟩, .string ⟨#[]⟩, .int .i64 4, .int .i64 2, .string ⟨#[]⟩, .string ⟨#[]⟩] 37)).ownsRow w.heap.size 37 4 (.slice (some ⟨w.heap.size, 0, none⟩) 6 6) 6 (recV evV sh9) := own_lit9 w 37 6 sh9 rfl (by omega)
  have T1 := IsRec.own (L := sh9) evV_len (by omega) O1 (by omega)
  have B1 := (Below.refl w.heap.size w).alloc (Nat.le_refl _) (.cells #[.int .i64 1, .int .i64 1, .string ⟨#[]⟩, .string ⟨#[]⟩, .int .i64 3, .int .i64 1, .string ⟨#[97]⟩, .string ⟨#[120]⟩, .int .i64 1, .int .i64 2, .string ⟨#[]⟩, .string ⟨#[]⟩, .int .i64 2, .int .i64 2, .string ⟨#[97]⟩, .string ⟨#[120]⟩, .int .i64 5, .int .i64 1, .string ⟨#[]⟩, .string ⟨#[]⟩, .int .i64 4, .int .i64 2, .string ⟨#[]⟩, .string ⟨#[]⟩] 37)
  have A1 := C.first sh9 _ _ T1 (by unfold goodE; simp) (by simp)
  rw [sh9_first] at A1
  have H1 : Hid (Calls Try.prog 14 #[.slice (some ⟨w.heap.size, 0, none⟩) 6 6] (w.alloc (.cells #[.int .i64 1, .int .i64 1, .string ⟨#[]⟩, .string ⟨#[]⟩, .int .i64 3, .int .i64 1, .string ⟨#[97]⟩, .string ⟨#[120]⟩, .int .i64 1, .int .i64 2, .string ⟨#[]⟩, .string ⟨#[]⟩, .int .i64 2, .int .i64 2, .string ⟨#[97]⟩, .string ⟨#[120]⟩, .int .i64 5, .int .i64 1, .string ⟨#[]⟩, .string ⟨#[]⟩, .int .i64 4, .int .i64 2, .string ⟨#[]⟩, .string ⟨#[]⟩] 37)) fun e w' => e = .returned (.tuple #[.agg #[.int .i64 1, .int .i64 3, .int .i64 1], .bool true]) ∧ Below (w.alloc (.cells #[.int .i64 1, .int .i64 1, .string ⟨#[]⟩, .string ⟨#[]⟩, .int .i64 3, .int .i64 1, .string ⟨#[97]⟩, .string ⟨#[120]⟩, .int .i64 1, .int .i64 2, .string ⟨#[]⟩, .string ⟨#[]⟩, .int .i64 2, .int .i64 2, .string ⟨#[97]⟩, .string ⟨#[120]⟩, .int .i64 5, .int .i64 1, .string ⟨#[]⟩, .string ⟨#[]⟩, .int .i64 4, .int .i64 2, .string ⟨#[]⟩, .string ⟨#[]⟩] 37)).heap.size (w.alloc (.cells #[.int .i64 1, .int .i64 1, .string ⟨#[]⟩, .string ⟨#[]⟩, .int .i64 3, .int .i64 1, .string ⟨#[97]⟩, .string ⟨#[120]⟩, .int .i64 1, .int .i64 2, .string ⟨#[]⟩, .string ⟨#[]⟩, .int .i64 2, .int .i64 2, .string ⟨#[97]⟩, .string ⟨#[120]⟩, .int .i64 5, .int .i64 1, .string ⟨#[]⟩, .string ⟨#[]⟩, .int .i64 4, .int .i64 2, .string ⟨#[]⟩, .string ⟨#[]⟩] 37)) w') := A1
  clear A1 O1 T1
  go_enter Try.func9, Try.ntmps9
  go_wp2_with fail
  refine H1.out.mono ?_
  rintro e w1 ⟨rfl, b1⟩
  have B2 := bel_trans B1 b1
  go_wp2_with fail
  go_ret
  exact ⟨rfl, B2.alloc B2.size _⟩
theorem few9_any (v : Value) (L : List Ev) (w : World) (hT : IsEvs w v L) : Calls Try.prog 10 #[v] w fun e w' => e = .returned (.bool (decide (L.length ≤ 300))) ∧ Below w.heap.size w w' := by
  obtain ⟨a, cap, rfl, h1, h2, h3, _⟩ := hT.some_at
  obtain ⟨n, hn⟩ : ∃ n, L.length = n := ⟨_, rfl⟩
  rw [hn]
  clear hT hn
  by_cases h : n ≤ 300
  · rw [decide_eq_true h]
    have j : (n : Int) ≤ 300 := by omega
    go_enter Try.func10, Try.ntmps10
    go_wp2_with fail
    go_ret
    exact ⟨rfl, Below.refl _ _⟩
  · rw [decide_eq_false h]
    have j : ¬ (n : Int) ≤ 300 := by omega
    go_enter Try.func10, Try.ntmps10
    go_wp2_with fail
    go_ret
    exact ⟨rfl, Below.refl _ _⟩
end Go.Proofs.Ytljgflgfcbmgiaa
