/-
  The walk of BlakeKeys.
-/
import Derived.Test.YthdikknjabdfeaaDoorShown2
import Derived.Test.YthdikknjabdfeaaDoorR2Keyed
namespace Go.Proofs.YthdikknjabdfeaaDoor
open Go.RowKit
set_option linter.unusedVariables false
attribute [local go_sem] ba_size
set_option maxHeartbeats 1000000 in
theorem keys_walk0 (K S x : List UInt8) (er : Int) (h1 : ∀ w, G w → Calls Tryd.prog 20 #[.string ⟨K.toArray⟩, .string ⟨S.toArray⟩] w fun e w' => e = .returned (.tuple #[.string ⟨x.toArray⟩, .int .i64 er]) ∧ Below w.heap.size w w')
    (h2 : ∀ w, Calls Tryd.prog 21 #[.string ⟨K.toArray⟩, .string ⟨S.toArray⟩] w fun e w' => e = .returned (.tuple #[.string ⟨x.toArray⟩, .int .i64 er]) ∧ Below w.heap.size w w') (w : World) (hG : G w) :
    Calls Tryd.prog 6 #[.string ⟨K.toArray⟩, .string ⟨S.toArray⟩] w fun e w' => e = .returned (.bool true) ∧ Below w.heap.size w w' := by
  have hg3 := hG.size
  go_enter Tryd.func6, Tryd.ntmps6
  go_wp2_with fail
  refine (shown2 w hG).mono ?_
  rintro e w1 ⟨rfl, hb1⟩
  go_wp2_with fail
  refine (h1 w1 (hG.below hb1 hg3)).mono ?_
  rintro e w2 ⟨rfl, hb2⟩
  go_wp2_with fail
  refine (h2 w2).mono ?_
  rintro e w3 ⟨rfl, hb3⟩
  go_wp2
  go_ret
  exact ⟨by simp, bel_trans (bel_trans hb1 hb2) hb3⟩
theorem keys_walk (K S : List UInt8) (hK : K.length ≤ 140737488351232) (hS : S.length ≤ 140737488351232) (w : World) (hG : G w) :
    Calls Tryd.prog 6 #[.string ⟨K.toArray⟩, .string ⟨S.toArray⟩] w fun e w' => e = .returned (.bool true) ∧ Below w.heap.size w w' := by
  rcases Nat.lt_or_ge 32 K.length with h | h
  · exact keys_walk0 K S [] 1 (fun w _ => keyed_long K S h w) (fun w => rkeyed_long K S h w) w hG
  · match K, h with
    | [], _ => exact keys_walk0 [] S [] 1 (fun w _ => keyed_none S w) (fun w => rkeyed_none S w) w hG
    | a :: l, h => exact keys_walk0 (a :: l) S (keyL (a :: l) S) 0 (fun w hg => keyed_good (a :: l) S (by simp) h (by omega) w hg) (fun w => rkeyed_good (a :: l) S (by simp) h (by omega) w) w hG
end Go.Proofs.YthdikknjabdfeaaDoor
