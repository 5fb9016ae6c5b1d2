/-
  What cartouchelaw07.shown and few answer.
-/
import Derived.Test.YtihggfkenhkglaaDoorZP7S
namespace Go.Proofs.YtihggfkenhkglaaDoor
set_option maxRecDepth 100000
open Go.RowKit
set_option linter.unusedVariables false
attribute [local go_sem] ba_size ba_append
theorem figs_0 : figsL 0 = [48] := by rw [figsL_eq, dif_pos (by omega)]; rfl
abbrev shownA : Ev := (3, 1, [97], [120])
abbrev shownB : Ev := (2, 2, [97], [120])
theorem shape_shown : shapeL [shownA, shownB] = [(3, 1, [107, 48], [118, 48]), (2, 2, [107, 48], [118, 48])] := by
  have hk : fstAt (keyAt [shownA, shownB]) 2 [97] = 0 := by decide
  have hv : fstAt (valAt [shownA, shownB]) 2 [120] = 0 := by decide
  have e1 : nameL 107 (keyAt [shownA, shownB]) 2 [97] = [107, 48] := by unfold nameL; rw [if_neg (by simp), hk, figs_0]
  have e2 : nameL 118 (valAt [shownA, shownB]) 2 [120] = [118, 48] := by unfold nameL; rw [if_neg (by simp), hv, figs_0]
  show [shapeE _ _, shapeE _ _] = _
  unfold shapeE
  simp only [List.length_cons, List.length_nil]
  rw [e1, e2]
theorem evs_own_two (w : World) (e : Nat) (x y : Ev) : (w.alloc (.cells #[.int .i64 x.1, .int .i64 x.2.1, .string ⟨x.2.2.1.toArray⟩, .string ⟨x.2.2.2.toArray⟩, .int .i64 y.1, .int .i64 y.2.1, .string ⟨y.2.2.1.toArray⟩, .string ⟨y.2.2.2.toArray⟩] e)).ownsRow w.heap.size e 4 (.slice (some ⟨w.heap.size, 0, none⟩) 2 2) 2 (recV evV [x, y]) :=
  ⟨by rfl, .inr ⟨w.heap.size, 2, _, rfl, Nat.le_refl _, SBox.new w e _, Nat.le_refl _, by unfold maxLen; omega, by simp, by simp [recV, evV]⟩⟩
theorem own_cells {W : World} {B e k n : Nat} {v : Value} {xs : List Value} (h : W.ownsRow B e k v n xs) (h0 : n ≠ 0) : ∃ g c, v = .slice (some ⟨g, 0, none⟩) n c ∧ n ≤ c := by
  rcases h.2 with ⟨_, hn⟩ | ⟨g, cap, cur, rfl, _, _, hc, _⟩
  · exact absurd hn h0
  · exact ⟨_, _, rfl, hc⟩
set_option maxHeartbeats 1000000 in
theorem shown7_any (C : P7S) (w : World) : Calls Tryd.prog 10 #[] w fun e w' => e = .returned (.bool true) ∧ Below w.heap.size w w' := by
  have O1 := evs_own_two w 23 shownA shownB
  have T1 := IsRec.own (L := [shownA, shownB]) evV_len (by omega) O1 (by omega)
  have B1 := (Below.refl w.heap.size w).alloc (Nat.le_refl _) (.cells #[.int .i64 3, .int .i64 1, .string ⟨#[97]⟩, .string ⟨#[120]⟩, .int .i64 2, .int .i64 2, .string ⟨#[97]⟩, .string ⟨#[120]⟩] 23)
  have A1 := C.shape [shownA, shownB] _ _ T1 (by simp) (by simp)
  rw [shape_shown] at A1
  have H1 : Hid (Calls Tryd.prog 21 #[.slice (some ⟨w.heap.size, 0, none⟩) 2 2] (w.alloc (.cells #[.int .i64 3, .int .i64 1, .string ⟨#[97]⟩, .string ⟨#[120]⟩, .int .i64 2, .int .i64 2, .string ⟨#[97]⟩, .string ⟨#[120]⟩] 23)) fun e w' => EvRow 23 (w.alloc (.cells #[.int .i64 3, .int .i64 1, .string ⟨#[97]⟩, .string ⟨#[120]⟩, .int .i64 2, .int .i64 2, .string ⟨#[97]⟩, .string ⟨#[120]⟩] 23)) [(3, 1, [107, 48], [118, 48]), (2, 2, [107, 48], [118, 48])] e w') := A1
  clear A1 O1 T1
  go_enter Tryd.func10, Tryd.ntmps10
  go_wp2_with fail
  refine H1.out.mono ?_
  rintro e w1 ⟨r, rfl, b1, o1⟩
  have B2 := bel_trans B1 b1
  obtain ⟨g, c, rfl, hc⟩ := own_cells o1 (by simp)
  have c2 : w1.cell? ⟨g, 2, none⟩ = some (.string ⟨#[107, 48]⟩) := o1.cellAt 2 (by simp)
  have c3 : w1.cell? ⟨g, 3, none⟩ = some (.string ⟨#[118, 48]⟩) := o1.cellAt 3 (by simp)
  have c6 : w1.cell? ⟨g, 6, none⟩ = some (.string ⟨#[107, 48]⟩) := o1.cellAt 6 (by simp)
  have c7 : w1.cell? ⟨g, 7, none⟩ = some (.string ⟨#[118, 48]⟩) := o1.cellAt 7 (by simp)
  go_wp2_with fail
  go_ret
  exact ⟨rfl, B2⟩
theorem few_any (v : Value) (L : List Ev) (w : World) (hT : IsEvs w v L) : Calls Tryd.prog 17 #[v] w fun e w' => e = .returned (.bool (decide (L.length ≤ 60))) ∧ Below w.heap.size w w' := by
  obtain ⟨a, cap, rfl, h1, h2, h3, _⟩ := hT.some_at
  obtain ⟨n, hn⟩ : ∃ n, L.length = n := ⟨_, rfl⟩
  rw [hn]
  clear hT hn
  by_cases h : n ≤ 60
  · rw [decide_eq_true h]
    have j : (n : Int) ≤ 60 := by omega
    go_enter Tryd.func17, Tryd.ntmps17
    go_wp2_with fail
    go_ret
    exact ⟨rfl, Below.refl _ _⟩
  · rw [decide_eq_false h]
    have j : ¬ (n : Int) ≤ 60 := by omega
    go_enter Tryd.func17, Tryd.ntmps17
    go_wp2_with fail
    go_ret
    exact ⟨rfl, Below.refl _ _⟩
end Go.Proofs.YtihggfkenhkglaaDoor
