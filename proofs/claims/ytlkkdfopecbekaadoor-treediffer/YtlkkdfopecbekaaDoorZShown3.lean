/-
  What cartouchelaw03.shown answers.
-/
import Derived.Test.YtlkkdfopecbekaaDoorZP3Path
import Derived.Test.YtlkkdfopecbekaaDoorZFew3
namespace Go.Proofs.YtlkkdfopecbekaaDoor
set_option maxRecDepth 100000
open Go.RowKit
set_option linter.unusedVariables false
attribute [local go_sem] ba_size
def abcL : List (List UInt8) := [[97], [98], [99]]
theorem path_a : pathL sumL [[97]] 0 = [] := pathL_one sumL _ 0 (by simp)
theorem path_c : (pathL sumL abcL 2).length = 1 := by
  rw [pathL_right sumL abcL 2 (by simp [abcL]) (by decide), pathL_one sumL _ _ (by decide)]; rfl
theorem path_0 : (pathL sumL abcL 0).length = 2 := by
  rw [pathL_left sumL abcL 0 (by simp [abcL]) (by decide), List.length_append, pathL_left sumL _ 0 (by decide) (by decide), pathL_one sumL _ _ (by decide)]; rfl
theorem txt_one (w : World) (s : List UInt8) (hs : s.length ≤ 1000) : IsTxt (w.alloc (.cells #[.string ⟨s.toArray⟩] 9)) (.slice (some ⟨w.heap.size, 0, none⟩) 1 1) [s] := by
  refine ⟨_, _, _, rfl, rfl, by omega, by omega, by omega, fun t ht => by rw [List.mem_singleton] at ht; rw [ht]; omega, .inr ⟨w.heap.size, 0, rfl, by simp, fun i hi => ?_⟩⟩
  match i, hi with
  | 0, _ => rw [cell_of_block (World.alloc_heap_new w _)]; rfl
theorem txt_abc (w : World) : IsTxt (w.alloc (.cells #[.string ⟨#[97]⟩, .string ⟨#[98]⟩, .string ⟨#[99]⟩] 9)) (.slice (some ⟨w.heap.size, 0, none⟩) 3 3) abcL := by
  refine ⟨_, _, _, rfl, rfl, by omega, by omega, by omega, fun t ht => by simp [abcL] at ht; rcases ht with rfl | rfl | rfl <;> simp, .inr ⟨w.heap.size, 0, rfl, by simp, fun i hi => ?_⟩⟩
  match i, hi with
  | 0, _ => rw [cell_of_block (World.alloc_heap_new w _)]; rfl
  | 1, _ => rw [cell_of_block (World.alloc_heap_new w _)]; rfl
  | 2, _ => rw [cell_of_block (World.alloc_heap_new w _)]; rfl
set_option maxHeartbeats 1000000 in
theorem shown3_any (w : World) (hG : G w) : Calls Tryd.prog 12 #[] w fun e w' => e = .returned (.bool true) ∧ Below w.heap.size w w' := by
  have hg3 := hG.size
  have al : ∀ (W : World) o, Below w.heap.size w W → Below w.heap.size w (W.alloc o) := fun W o h => h.alloc h.size o
  have A1 := ppath_any [[97]] _ 0 _ (hG.below (al w _ (Below.refl _ _)) hg3) (txt_one w [97] (by simp)) (by simp) (by simp)
  have A2 := fun W (h : Below w.heap.size w W) => ppath_any abcL _ 2 _ (hG.below (al W _ h) hg3) (txt_abc W) (by decide) (by decide)
  have A3 := fun W (h : Below w.heap.size w W) => ppath_any abcL _ 0 _ (hG.below (al W _ h) hg3) (txt_abc W) (by decide) (by decide)
  have p1 := path_a
  have p2 := path_c
  have p3 := path_0
  obtain ⟨P1, hP1⟩ : ∃ P, pathL sumL [[97]] 0 = P := ⟨_, rfl⟩
  obtain ⟨P2, hP2⟩ : ∃ P, pathL sumL abcL 2 = P := ⟨_, rfl⟩
  obtain ⟨P3, hP3⟩ : ∃ P, pathL sumL abcL 0 = P := ⟨_, rfl⟩
  rw [hP1] at A1 p1
  rw [hP2] at p2
  rw [hP3] at p3
  simp only [hP2] at A2
  simp only [hP3] at A3
  subst p1
  clear hP1 hP2 hP3
  have HA2 : Hid (∀ W, Below w.heap.size w W → Calls Tryd.prog 16 #[.slice (some ⟨W.heap.size, 0, none⟩) 3 3, .int .i64 2] (W.alloc (.cells #[.string ⟨#[97]⟩, .string ⟨#[98]⟩, .string ⟨#[99]⟩] 9)) fun e w' => ∃ p, e = .returned (.tuple #[p, .int .i64 0]) ∧ w'.ownsRow (W.alloc (.cells #[.string ⟨#[97]⟩, .string ⟨#[98]⟩, .string ⟨#[99]⟩] 9)).heap.size 9 1 p P2.length (strV P2) ∧ Below (W.alloc (.cells #[.string ⟨#[97]⟩, .string ⟨#[98]⟩, .string ⟨#[99]⟩] 9)).heap.size (W.alloc (.cells #[.string ⟨#[97]⟩, .string ⟨#[98]⟩, .string ⟨#[99]⟩] 9)) w') := A2
  have HA3 : Hid (∀ W, Below w.heap.size w W → Calls Tryd.prog 16 #[.slice (some ⟨W.heap.size, 0, none⟩) 3 3, .int .i64 0] (W.alloc (.cells #[.string ⟨#[97]⟩, .string ⟨#[98]⟩, .string ⟨#[99]⟩] 9)) fun e w' => ∃ p, e = .returned (.tuple #[p, .int .i64 0]) ∧ w'.ownsRow (W.alloc (.cells #[.string ⟨#[97]⟩, .string ⟨#[98]⟩, .string ⟨#[99]⟩] 9)).heap.size 9 1 p P3.length (strV P3) ∧ Below (W.alloc (.cells #[.string ⟨#[97]⟩, .string ⟨#[98]⟩, .string ⟨#[99]⟩] 9)).heap.size (W.alloc (.cells #[.string ⟨#[97]⟩, .string ⟨#[98]⟩, .string ⟨#[99]⟩] 9)) w') := A3
  clear A2 A3
  go_enter Tryd.func12, Tryd.ntmps12
  go_wp2_with fail
  refine A1.mono ?_
  rintro e w1 ⟨r1, rfl, o1, b1⟩
  have B1 : Below w.heap.size w w1 := (al w _ (Below.refl _ _)).trans (b1.mono (by simp))
  obtain ⟨ra1, rc1, rfl⟩ : ∃ a c, r1 = .slice a 0 c := by
    rcases o1.2 with ⟨rfl, _⟩ | ⟨g, cap, cur, rfl, _⟩
    · exact ⟨_, _, rfl⟩
    · exact ⟨_, _, rfl⟩
  go_wp2_with fail
  refine (HA2.out w1 B1).mono ?_
  rintro e w2 ⟨r2, rfl, o2, b2⟩
  have B2 : Below w.heap.size w w2 := (al w1 _ B1).trans (b2.mono (by have := B1.size; simp; omega))
  obtain ⟨ra2, rc2, rfl⟩ : ∃ a c, r2 = .slice a 1 c := by
    rw [p2] at o2
    rcases o2.2 with ⟨rfl, h⟩ | ⟨g, cap, cur, rfl, _⟩
    · cases h
    · exact ⟨_, _, rfl⟩
  go_wp2_with fail
  refine (HA3.out w2 B2).mono ?_
  rintro e w3 ⟨r3, rfl, o3, b3⟩
  have B3 : Below w.heap.size w w3 := (al w2 _ B2).trans (b3.mono (by have := B2.size; simp; omega))
  obtain ⟨ra3, rc3, rfl⟩ : ∃ a c, r3 = .slice a 2 c := by
    rw [p3] at o3
    rcases o3.2 with ⟨rfl, h⟩ | ⟨g, cap, cur, rfl, _⟩
    · cases h
    · exact ⟨_, _, rfl⟩
  clear p2 p3
  go_wp2_with fail
  go_ret
  exact ⟨rfl, B3⟩
end Go.Proofs.YtlkkdfopecbekaaDoor
