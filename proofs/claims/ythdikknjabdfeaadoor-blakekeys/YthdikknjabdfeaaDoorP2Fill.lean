/-
  What blake.fill answers.
-/
import Derived.Test.YthdikknjabdfeaaDoorProg
import Derived.Test.YthdikknjabdfeaaDoorByteRow
import Derived.Deep.Cut
namespace Go.Proofs.YthdikknjabdfeaaDoor
open Go.RowKit
set_option linter.unusedVariables false
def Z64 : List UInt8 := List.replicate 64 0
set_option maxHeartbeats 1000000 in
theorem fill_any (l : List UInt8) (hl : l.length ≤ 64) (w : World) :
    Calls Tryd.prog 35 #[.string ⟨l.toArray⟩] w fun e w' => e = .returned (.string ⟨(padL l).toArray⟩) ∧ Below w.heap.size w w' := by
  have hpad : l ++ Z64.drop l.length = padL l := by unfold Z64; rw [List.drop_replicate]; rfl
  have hb : (Tryd.prog.info? 5).map (·.size) = some 1 := by kernel_rfl
  go_enter Tryd.func35, Tryd.ntmps35
  go_upto_region 3 with (refine wpList_copy_str rfl _ _ 64 9 rfl 5 Tryd.underlying64 hb w.heap.size 64 64 rfl Z64 l rfl 77 (heap_alloc_new w _) hl ?h2 ?_)
  case h2 => exact hl
  change Code.wp _ _ _ _ ((w.alloc (.cells (bv Z64) 77)).setRow w.heap.size (bv (l ++ Z64.drop l.length)))
  rw [hpad]
  obtain ⟨w2, hw2⟩ : ∃ w2, (w.alloc (.cells (bv Z64) 77)).setRow w.heap.size (bv (padL l)) = w2 := ⟨_, rfl⟩
  have hrow : BRow w2 w.heap.size 77 (padL l) := by rw [← hw2]; exact setRow_heap _ _ _ _ _ _ (heap_alloc_new w _)
  have hbw : Below w.heap.size w w2 := by rw [← hw2]; exact below_setRow ((Below.refl _ _).alloc (Nat.le_refl _) _) (Nat.le_refl _) _
  have hconv := hrow.string (P := Tryd.prog) 64 5 9 (by kernel_rfl) (by kernel_rfl) (by kernel_rfl) 64 64 (padL_len l hl)
  rw [hw2]
  clear hw2
  go_wp2
  go_ret
  exact ⟨rfl, hbw⟩
end Go.Proofs.YthdikknjabdfeaaDoor
