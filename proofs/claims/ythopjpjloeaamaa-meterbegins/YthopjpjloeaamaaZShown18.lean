/-
  What cartouchelaw18.shown answers.
-/
import Derived.Test.YthopjpjloeaamaaZP18Sp
namespace Go.Proofs.Ythopjpjloeaamaa
set_option maxRecDepth 100000
open Go.RowKit
set_option linter.unusedVariables false
attribute [local go_sem] ba_size
theorem own_new18 (W : World) (e n : Nat) (xs : List Value) (h : xs.length = n) (hn : n ≤ maxLen) : (W.alloc (.cells xs.toArray e)).ownsRow W.heap.size e 1 (.slice (some ⟨W.heap.size, 0, none⟩) n n) n xs :=
  ⟨by rw [h, Nat.mul_one], .inr ⟨W.heap.size, n, xs.toArray, rfl, Nat.le_refl _, SBox.new W e _, Nat.le_refl _, hn, by simp [h], by rw [List.toList_toArray, Nat.mul_one, ← h, List.take_length]⟩⟩
set_option maxHeartbeats 2000000 in
theorem shown18_any (w : World) : Calls Try.prog 9 #[] w fun e w' => e = .returned (.bool true) ∧ Below w.heap.size w w' := by
  have hs : spnM 7 (7, 150) [100, 100, 50] = [true, false, true] := by decide
  have hI : IsInts (w.alloc (.cells #[.int .i64 100, .int .i64 100, .int .i64 50] 3)) (.slice (some ⟨w.heap.size, 0, none⟩) 3 3) [100, 100, 50] :=
    IsRec.own (sz := 1) (enc := intV) (fun _ => rfl) (by decide) (own_new18 w 3 3 [.int .i64 100, .int .i64 100, .int .i64 50] rfl (by unfold maxLen; omega)) (by omega)
  have C := pspend18_any 7 (by omega) _ _ _ hI
  rw [hs] at C
  have B := mbel1 w (.cells #[.int .i64 100, .int .i64 100, .int .i64 50] 3)
  clear hs hI
  go_enter Try.func9, Try.ntmps9
  go_wp2_with fail
  refine C.mono ?_
  rintro e W ⟨v, rfl, b, hB⟩
  replace B := B.trans (b.mono B.size)
  obtain ⟨a, cap, rfl, _, _, _, HC⟩ := hB.some_at
  obtain ⟨b0, o0, rfl, _, p0⟩ := HC.out 0 (by decide)
  obtain ⟨b1, o1, e1, _, p1⟩ := HC.out 1 (by decide)
  obtain ⟨b2, o2, e2, _, p2⟩ := HC.out 2 (by decide)
  obtain ⟨rfl, rfl⟩ : b1 = b0 ∧ o1 = o0 := by simpa [eq_comm] using e1
  obtain ⟨rfl, rfl⟩ : b2 = b1 ∧ o2 = o1 := by simpa [eq_comm] using e2
  have q0 : W.cell? ⟨b2, o2, none⟩ = some (.bool true) := by simpa using p0 0 _ rfl
  have q1 : W.cell? ⟨b2, o2 + 1, none⟩ = some (.bool false) := by simpa using p1 0 _ rfl
  have q2 : W.cell? ⟨b2, o2 + 2, none⟩ = some (.bool true) := by simpa using p2 0 _ rfl
  clear C b hB HC p0 p1 p2 e1 e2
  go_wp2_with fail
  go_ret
  exact ⟨rfl, B⟩
end Go.Proofs.Ythopjpjloeaamaa
