/-
  Versions, as a statement goes through them: in lists; a row of numbers, read.
-/
import Derived.Test.YthopjpjloeaamaaZHist8
import Derived.Test.YthopjpjloeaamaaZLife8
namespace Go.Proofs.Ythopjpjloeaamaa
set_option maxRecDepth 100000
open Go.RowKit
set_option linter.unusedVariables false
theorem getD_at {α : Type} (l : List α) (d : α) (j : Nat) (h : j < l.length) : l.getD j d = l[j] := by rw [List.getD_eq_getElem?_getD, List.getElem?_eq_getElem h, Option.getD_some]
theorem IsInts.reads {w : World} {v : Value} {L : List Int} (hT : IsInts w v L) : ∃ a cap, v = .slice a L.length cap ∧ L.length ≤ cap ∧ cap ≤ 9223372036854775807 ∧ L.length ≤ 140737488351232 ∧
    Hid (0 < L.length → ∃ b off, a = some ⟨b, off, none⟩ ∧ Hid (∀ j, j < L.length → ∀ V, Below w.heap.size w V → V.cell? ⟨b, off + j, none⟩ = some (.int .i64 (L.getD j 0)))) := by
  obtain ⟨a, cap, rfl, h1, h2, h3, HC⟩ := hT.some_at
  refine ⟨a, cap, rfl, h1, h2, h3, ?_⟩
  intro h0
  obtain ⟨b, off, rfl, hlt, _⟩ := HC.out 0 h0
  refine ⟨b, off, rfl, ?_⟩
  intro j hj V hV
  obtain ⟨b', off', hbo, _, hc⟩ := HC.out j hj
  obtain ⟨rfl, rfl⟩ : b = b' ∧ off = off' := by simpa using hbo
  have := hc 0 (.int .i64 L[j]) rfl
  rw [getD_at L 0 j hj]
  refine (hV.cell (p := ⟨b, off + j, none⟩) hlt).trans ?_
  simpa using this
theorem vers_pack {h : List Ev} (hw : WF h) (key : List UInt8) (j : Nat) (hj : j < (versL h key).length) : ∃ y f e : Nat, ((versL h key).map Int.ofNat).getD j 0 = (y : Int) ∧ y < h.length ∧ (ev h y).1 = 3 ∧ (ev h y).2.2.1 = key ∧ findL h (ev h y).2.1 = some ((ev h y).2.1, f, e, true) ∧ (srcL h key).getD j 0 = e ∧ ∀ i, i < j → (srcL h key).getD i 0 < e := by
  obtain ⟨f, a1, a2, a3, a4⟩ := vers_at hw key j hj
  have hs := src_len h key
  refine ⟨_, f, _, ?_, a1, a2, a3, a4, ?_, ?_⟩
  · rw [getD_at _ _ _ (by rw [List.length_map]; exact hj), List.getElem_map]; rfl
  · rw [getD_at _ _ _ (by omega)]
  · intro i hi
    rw [getD_at _ _ _ (by omega)]
    exact (List.pairwise_iff_getElem.1 (src_sorted h key)) i j (by omega) (by omega) hi
def lastP (h : List Ev) (key : List UInt8) (j : Nat) : Int := if j = 0 then -1 else (((srcL h key).getD (j - 1) 0 : Nat) : Int)
theorem lastP_zero (h : List Ev) (key : List UInt8) : lastP h key 0 = -1 := by unfold lastP; rw [if_pos rfl]
theorem lastP_next (h : List Ev) (key : List UInt8) (j : Nat) : lastP h key (j + 1) = (((srcL h key).getD j 0 : Nat) : Int) := by unfold lastP; rw [if_neg (by omega)]; rfl
theorem lastP_less (h : List Ev) (key : List UInt8) (j e : Nat) (hs : ∀ i, i < j → (srcL h key).getD i 0 < e) : lastP h key j < (e : Int) := by
  unfold lastP
  by_cases h0 : j = 0
  · rw [if_pos h0]; omega
  · rw [if_neg h0]; have := hs (j - 1) (by omega); omega
theorem vers_some {h : List Ev} (hw : WF h) (key : List UInt8) (k : Nat) (hk : k < h.length) (h3 : (ev h k).1 = 3) (hkey : (ev h k).2.2.1 = key) (f e : Nat) (hf : findL h (ev h k).2.1 = some ((ev h k).2.1, f, e, true)) : ∃ j y : Nat, j < (versL h key).length ∧ ((versL h key).map Int.ofNat).getD j 0 = ((y : Nat) : Int) ∧ (ev h y).2.1 = (ev h k).2.1 ∧ k ≤ y := by
  obtain ⟨m, hm, e1, e2⟩ := vers_has hw key k hk h3 hkey f e hf
  obtain ⟨j, hj, rfl⟩ := List.getElem_of_mem hm
  refine ⟨j, _, hj, ?_, e1, e2⟩
  rw [getD_at _ _ _ (by rw [List.length_map]; exact hj), List.getElem_map]
  rfl
/-- Whether one of the first q versions is of that transaction, and no elder. -/
def InB (h : List Ev) (VV : List Int) (x1 : Int) (k q : Nat) (bo : Bool) : Prop := bo = true ↔ ∃ j y : Nat, j < q ∧ VV.getD j 0 = ((y : Nat) : Int) ∧ (ev h y).2.1 = x1 ∧ k ≤ y
end Go.Proofs.Ythopjpjloeaamaa
