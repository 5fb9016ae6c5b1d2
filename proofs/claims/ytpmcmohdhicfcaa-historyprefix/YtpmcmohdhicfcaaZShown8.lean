/-
  What cartouchelaw08.shown and few answer.
-/
import Derived.Test.YtpmcmohdhicfcaaZP8C
namespace Go.Proofs.Ytpmcmohdhicfcaa
set_option maxRecDepth 100000
open Go.RowKit
set_option linter.unusedVariables false
attribute [local go_sem] ba_size
abbrev shA : List Ev := [(1, 1, [], []), (3, 1, [97], [120]), (4, 1, [], [])]
abbrev shB : List Ev := [(2, 1, [97], [])]
theorem shA_formed : formedL shA = (3, 0) := by decide +kernel
theorem shB_formed : formedL shB = (0, 7) := by decide +kernel
theorem shA_vers : versL shA [97] = [1] := by decide +kernel
theorem evs_own_three (w : World) (e : Nat) (x y z : Ev) : (w.alloc (.cells #[.int .i64 x.1, .int .i64 x.2.1, .string ⟨x.2.2.1.toArray⟩, .string ⟨x.2.2.2.toArray⟩, .int .i64 y.1, .int .i64 y.2.1, .string ⟨y.2.2.1.toArray⟩, .string ⟨y.2.2.2.toArray⟩, .int .i64 z.1, .int .i64 z.2.1, .string ⟨z.2.2.1.toArray⟩, .string ⟨z.2.2.2.toArray⟩] e)).ownsRow w.heap.size e 4 (.slice (some ⟨w.heap.size, 0, none⟩) 3 3) 3 (recV evV [x, y, z]) :=
  ⟨by rfl, .inr ⟨w.heap.size, 3, _, rfl, Nat.le_refl _, SBox.new w e _, Nat.le_refl _, by unfold maxLen; omega, by simp, by simp [recV, evV]⟩⟩
theorem evs_own_one (w : World) (e : Nat) (x : Ev) : (w.alloc (.cells #[.int .i64 x.1, .int .i64 x.2.1, .string ⟨x.2.2.1.toArray⟩, .string ⟨x.2.2.2.toArray⟩] e)).ownsRow w.heap.size e 4 (.slice (some ⟨w.heap.size, 0, none⟩) 1 1) 1 (recV evV [x]) :=
  ⟨by rfl, .inr ⟨w.heap.size, 1, _, rfl, Nat.le_refl _, SBox.new w e _, Nat.le_refl _, by unfold maxLen; omega, by simp, by simp [recV, evV]⟩⟩
theorem own_cells8 {W : World} {B e k n : Nat} {v : Value} {xs : List Value} (h : W.ownsRow B e k v n xs) (h0 : n ≠ 0) : ∃ g c, v = .slice (some ⟨g, 0, none⟩) n c ∧ n ≤ c := by
  rcases h.2 with ⟨_, hn⟩ | ⟨g, cap, cur, rfl, _, _, hc, _⟩
  · exact absurd hn h0
  · exact ⟨_, _, rfl, hc⟩
abbrev shACells : Array Value := #[.int .i64 1, .int .i64 1, .string ⟨#[]⟩, .string ⟨#[]⟩, .int .i64 3, .int .i64 1, .string ⟨#[97]⟩, .string ⟨#[120]⟩, .int .i64 4, .int .i64 1, .string ⟨#[]⟩, .string ⟨#[]⟩]
set_option maxHeartbeats 1000000 in
theorem shown8_any (C : P8C) (w : World) : Calls Try.prog 11 #[] w fun e w' => e = .returned (.bool true) ∧ Below w.heap.size w w' := by
  have T1 := IsRec.own (L := shA) evV_len (by omega) (evs_own_three w 50 (1, 1, [], []) (3, 1, [97], [120]) (4, 1, [], [])) (by omega)
  have B1 := (Below.refl w.heap.size w).alloc (Nat.le_refl _) (.cells #[.int .i64 1, .int .i64 1, .string ⟨#[]⟩, .string ⟨#[]⟩, .int .i64 3, .int .i64 1, .string ⟨#[97]⟩, .string ⟨#[120]⟩, .int .i64 4, .int .i64 1, .string ⟨#[]⟩, .string ⟨#[]⟩] 50)
  have gA : ∀ x ∈ shA, goodE x := by unfold goodE; simp
  have gB : ∀ x ∈ shB, goodE x := by unfold goodE; simp
  have A1 := C.formed shA _ _ T1 gA
  have A2 := fun W hW => C.versions shA _ W [97] (T1.below (w' := W) hW) gA (by simp) (by simp)
  rw [shA_formed] at A1
  rw [shA_vers] at A2
  have H1 : Hid (Calls Try.prog 13 #[.slice (some ⟨w.heap.size, 0, none⟩) 3 3] (w.alloc (.cells #[.int .i64 1, .int .i64 1, .string ⟨#[]⟩, .string ⟨#[]⟩, .int .i64 3, .int .i64 1, .string ⟨#[97]⟩, .string ⟨#[120]⟩, .int .i64 4, .int .i64 1, .string ⟨#[]⟩, .string ⟨#[]⟩] 50)) fun e w' => e = .returned (.tuple #[.int .i64 3, .int .i64 0]) ∧ Below (w.alloc (.cells #[.int .i64 1, .int .i64 1, .string ⟨#[]⟩, .string ⟨#[]⟩, .int .i64 3, .int .i64 1, .string ⟨#[97]⟩, .string ⟨#[120]⟩, .int .i64 4, .int .i64 1, .string ⟨#[]⟩, .string ⟨#[]⟩] 50)).heap.size (w.alloc (.cells #[.int .i64 1, .int .i64 1, .string ⟨#[]⟩, .string ⟨#[]⟩, .int .i64 3, .int .i64 1, .string ⟨#[97]⟩, .string ⟨#[120]⟩, .int .i64 4, .int .i64 1, .string ⟨#[]⟩, .string ⟨#[]⟩] 50)) w') := A1
  have H2 : Hid (∀ W : World, Below (w.alloc (.cells #[.int .i64 1, .int .i64 1, .string ⟨#[]⟩, .string ⟨#[]⟩, .int .i64 3, .int .i64 1, .string ⟨#[97]⟩, .string ⟨#[120]⟩, .int .i64 4, .int .i64 1, .string ⟨#[]⟩, .string ⟨#[]⟩] 50)).heap.size (w.alloc (.cells #[.int .i64 1, .int .i64 1, .string ⟨#[]⟩, .string ⟨#[]⟩, .int .i64 3, .int .i64 1, .string ⟨#[97]⟩, .string ⟨#[120]⟩, .int .i64 4, .int .i64 1, .string ⟨#[]⟩, .string ⟨#[]⟩] 50)) W → Calls Try.prog 24 #[.slice (some ⟨w.heap.size, 0, none⟩) 3 3, .string ⟨#[97]⟩] W fun e w' => InRow W [1] e w') := A2
  have H3 : Hid (∀ W : World, Calls Try.prog 13 #[.slice (some ⟨W.heap.size, 0, none⟩) 1 1] (W.alloc (.cells #[.int .i64 2, .int .i64 1, .string ⟨#[97]⟩, .string ⟨#[]⟩] 50)) fun e w' => e = .returned (.tuple #[.int .i64 0, .int .i64 7]) ∧ Below (W.alloc (.cells #[.int .i64 2, .int .i64 1, .string ⟨#[97]⟩, .string ⟨#[]⟩] 50)).heap.size (W.alloc (.cells #[.int .i64 2, .int .i64 1, .string ⟨#[97]⟩, .string ⟨#[]⟩] 50)) w') := fun W => by
    have := C.formed shB _ _ (IsRec.own (L := shB) evV_len (by omega) (evs_own_one W 50 (2, 1, [97], [])) (by omega)) gB
    rw [shB_formed] at this
    exact this
  clear A1 A2 T1
  go_enter Try.func11, Try.ntmps11
  go_wp2_with fail
  refine H1.out.mono ?_
  rintro e w1 ⟨rfl, b1⟩
  have B2 := bel_trans B1 b1
  go_wp2_with fail
  refine (H2.out _ b1).mono ?_
  rintro e w2 ⟨r, rfl, b2, o2⟩
  have B3 := bel_trans B2 b2
  obtain ⟨g, c, rfl, hc⟩ := own_cells8 o2 (by simp)
  have c0 : w2.cell? ⟨g, 0, none⟩ = some (.int .i64 1) := o2.cellAt 0 (by simp)
  go_wp2_with fail
  refine (H3.out _).mono ?_
  rintro e w3 ⟨rfl, b3⟩
  have B4 := bel_trans (B3.alloc B3.size _) b3
  have d0 : w3.cell? ⟨g, 0, none⟩ = some (.int .i64 1) := cell_bel b3 (cell_bel ((Below.refl _ w2).alloc (Nat.le_refl _) _) c0)
  clear c0
  go_wp2_with fail
  go_ret
  exact ⟨rfl, B4⟩
theorem few8_any (v : Value) (L : List Ev) (w : World) (hT : IsEvs w v L) : Calls Try.prog 12 #[v] w fun e w' => e = .returned (.bool (decide (L.length ≤ 300))) ∧ Below w.heap.size w w' := by
  obtain ⟨a, cap, rfl, h1, h2, h3, _⟩ := hT.some_at
  obtain ⟨n, hn⟩ : ∃ n, L.length = n := ⟨_, rfl⟩
  rw [hn]
  clear hT hn
  by_cases h : n ≤ 300
  · rw [decide_eq_true h]
    have j : (n : Int) ≤ 300 := by omega
    go_enter Try.func12, Try.ntmps12
    go_wp2_with fail
    go_ret
    exact ⟨rfl, Below.refl _ _⟩
  · rw [decide_eq_false h]
    have j : ¬ (n : Int) ≤ 300 := by omega
    go_enter Try.func12, Try.ntmps12
    go_wp2_with fail
    go_ret
    exact ⟨rfl, Below.refl _ _⟩
end Go.Proofs.Ytpmcmohdhicfcaa
