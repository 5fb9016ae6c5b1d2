/-
  The package-level tables of blake, as the walks want them.
-/
import Derived.Test.YthdikknjabdfeaaDoorProg
import Derived.Test.YthdikknjabdfeaaDoorWords2
namespace Go.Proofs.YthdikknjabdfeaaDoor
open Go.RowKit
set_option linter.unusedVariables false
/-- The places that are mixed in a round. -/
def qd : List (List Nat) := [[0,4,8,12],[1,5,9,13],[2,6,10,14],[3,7,11,15],[0,5,10,15],[1,6,11,12],[2,7,8,13],[3,4,9,14]]
def qa (k j : Nat) : Nat := (qd.getD k []).getD j 0
def mixV : Array Value := (qd.flatten.map fun (n : Nat) => Value.int .i64 (n : Int)).toArray
/-- The orders, as numbers of 64 bits. -/
def ords : List Nat := [81985529216486895, 16881918945140062035, 13312731748010193300, 8733003861693448440, 10400822202260547645, 3200383143768358425, 14204332651957162635, 15816291393287259690, 8064173457993569445, 11710614767857974480]
def ordV : Array Value := (ords.map fun (n : Nat) => Value.int .u64 (n : Int)).toArray
/-- The package-level tables stand as their text lays them. -/
structure G (w : World) : Prop where
  g0 : ∃ t, w.heap[0]? = some (.cells (wv firstL) t (0, 0))
  g1 : ∃ t, w.heap[1]? = some (.cells mixV t (0, 0))
  g2 : ∃ t, w.heap[2]? = some (.cells ordV t (0, 0))
theorem G.size {w : World} (h : G w) : 3 ≤ w.heap.size := by
  obtain ⟨t, ht⟩ := h.g2
  rcases Nat.lt_or_ge 2 w.heap.size with h' | h'
  · exact h'
  · simp [Array.getElem?_eq_none h'] at ht
theorem G.of {w w' : World} (h : G w) (hb : ∀ g, g < 3 → w'.heap[g]? = w.heap[g]?) : G w' := by
  obtain ⟨⟨t0, h0⟩, ⟨t1, h1⟩, ⟨t2, h2⟩⟩ := h
  exact ⟨⟨t0, (hb 0 (by omega)).trans h0⟩, ⟨t1, (hb 1 (by omega)).trans h1⟩, ⟨t2, (hb 2 (by omega)).trans h2⟩⟩
theorem G.below {w w' : World} {b : Nat} (h : G w) (hb : Below b w w') (h3 : 3 ≤ b) : G w' := h.of fun g hg => hb.block g (by omega)
theorem G.mix {w : World} (h : G w) (k j : Nat) (hk : k < 8) (hj : j < 4) : w.cell? ⟨1, 4 * k + j, none⟩ = some (.int .i64 (qa k j)) := by
  obtain ⟨t, ht⟩ := h.g1
  rw [cell_of_row w 1 _ _ _ _ ht]
  have h1 : ∀ k, k < 8 → ∀ j, j < 4 → qd.flatten[4 * k + j]? = some (qa k j) := by decide
  unfold mixV
  rw [List.getElem?_toArray, List.getElem?_map, h1 k hk j hj]; rfl
theorem G.ord {w : World} (h : G w) (r : Nat) (hr : r < 10) : w.cell? ⟨2, r, none⟩ = some (.int .u64 (ords.getD r 0 : Nat)) := by
  obtain ⟨t, ht⟩ := h.g2
  rw [cell_of_row w 2 _ _ _ _ ht]
  have h1 : ∀ r, r < 10 → ords[r]? = some (ords.getD r 0) := by decide
  unfold ordV
  rw [List.getElem?_toArray, List.getElem?_map, h1 r hr]; rfl
theorem G.first {w : World} (h : G w) (i : Nat) (hi : i < 8) : w.cell? ⟨0, i, none⟩ = some (.int .u32 (at_ firstL i)) := by
  obtain ⟨t, ht⟩ := h.g0
  rw [cell_of_row w 0 _ _ _ _ ht, wv_get firstL i (by simpa [firstL] using hi), at_eq]
theorem qa_lt (k j : Nat) (hk : k < 8) (hj : j < 4) : qa k j < 16 := by
  have h1 : ∀ k, k < 8 → ∀ j, j < 4 → qa k j < 16 := by decide
  exact h1 k hk j hj
theorem qa_ne (k : Nat) (hk : k < 8) : qa k 0 ≠ qa k 1 ∧ qa k 0 ≠ qa k 2 ∧ qa k 0 ≠ qa k 3 ∧ qa k 1 ≠ qa k 2 ∧ qa k 1 ≠ qa k 3 ∧ qa k 2 ≠ qa k 3 := by
  have h1 : ∀ k, k < 8 → qa k 0 ≠ qa k 1 ∧ qa k 0 ≠ qa k 2 ∧ qa k 0 ≠ qa k 3 ∧ qa k 1 ≠ qa k 2 ∧ qa k 1 ≠ qa k 3 ∧ qa k 2 ≠ qa k 3 := by decide
  exact h1 k hk
/-- A round, as far as its first k mixings. -/
def rk (M V : List Int) (s : Nat → Nat) : Nat → List Int
  | 0 => V
  | k + 1 => mixL (rk M V s k) (qa k 0) (qa k 1) (qa k 2) (qa k 3) (at_ M (s (2 * k))) (at_ M (s (2 * k + 1)))
theorem rk_len (M V : List Int) (s : Nat → Nat) (h : V.length = 16) (k : Nat) : (rk M V s k).length = 16 := by
  induction k with
  | zero => exact h
  | succ k ih => exact mixL_len _ _ _ _ _ _ _ ih
theorem rk_congr (M V : List Int) (s s' : Nat → Nat) (k : Nat) (h : ∀ i, i < 2 * k → s i = s' i) : rk M V s k = rk M V s' k := by
  induction k with
  | zero => rfl
  | succ k ih =>
    unfold rk
    rw [ih (fun i hi => h i (by omega)), h (2 * k) (by omega), h (2 * k + 1) (by omega)]
end Go.Proofs.YthdikknjabdfeaaDoor
