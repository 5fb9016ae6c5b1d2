/-
  Equal rows of eight words are told equal.
-/
import Derived.Test.YthdikknjabdfeaaDoorProg
import Derived.Test.YthdikknjabdfeaaDoorWords2
import Derived.ChangeKeysEq
namespace Go.Proofs.YthdikknjabdfeaaDoor
open Go.RowKit
set_option linter.unusedVariables false
theorem eq_items {P : Program} {e : TypeId} (he : P.plainKey e = true) (hu : P.underlying e = some (.int .u32)) (hc : P.cellsOf e = 1) (R : List Int) (d : Nat) (w : World) :
    ∀ is : List Nat, (∀ i ∈ is, i < R.length) → (Op.eqItems (d + 1) e (P.cellsOf e) (wv R) (wv R) is).run P w = .ok true w
  | [], _ => by simp [Op.eqItems]
  | i :: is, h => by
    have hi := h i (by simp)
    have p1 := run_part_plain (P := P) w he (wv_get R i hi)
    have p2 : (Op.equalIn (d + 1) e (.int .u32 R[i]) (.int .u32 R[i])).run P w = .ok true w := by
      simp [Op.equalIn, run_underlying hu]
    rw [Op.eqItems, hc, Nat.mul_one]
    simp only [Sem.run_bind, p1, p2, Result.andThen_ok]
    have ih := eq_items he hu hc R d w is (fun j hj => h j (by simp [hj]))
    rw [hc] at ih
    simpa using ih
theorem eq_same (R : List Int) (h : R.length = 8) (w : World) : (Op.equalIn 10000 24 (.agg (wv R)) (.agg (wv R))).run Tryd.prog w = .ok true w := by
  obtain ⟨i, hi, _⟩ := Option.map_eq_some_iff.1 (show (Tryd.prog.info? 23).map (·.size) = some 1 by kernel_rfl)
  rw [run_equalIn_array w 9999 (wv R) (wv R) Tryd.underlying24 hi]
  exact eq_items (by kernel_rfl) Tryd.underlying23 (by kernel_rfl) R 9998 w _ (fun j hj => by rw [h]; exact List.mem_range.1 hj)
theorem eq_same8 (R : List Int) (h : R.length = 8) (w : World) : (Op.equalIn 10000 24 (.agg #[.int .u32 (at_ R 0), .int .u32 (at_ R 1), .int .u32 (at_ R 2), .int .u32 (at_ R 3), .int .u32 (at_ R 4), .int .u32 (at_ R 5), .int .u32 (at_ R 6), .int .u32 (at_ R 7)]) (.agg #[.int .u32 (at_ R 0), .int .u32 (at_ R 1), .int .u32 (at_ R 2), .int .u32 (at_ R 3), .int .u32 (at_ R 4), .int .u32 (at_ R 5), .int .u32 (at_ R 6), .int .u32 (at_ R 7)])).run Tryd.prog w = .ok true w := by
  have e : wv R = #[.int .u32 (at_ R 0), .int .u32 (at_ R 1), .int .u32 (at_ R 2), .int .u32 (at_ R 3), .int .u32 (at_ R 4), .int .u32 (at_ R 5), .int .u32 (at_ R 6), .int .u32 (at_ R 7)] := by
    match R, h with
    | [a, b, c, d, e, f, g, i], _ => rfl
  have := eq_same R h w
  rwa [e] at this
end Go.Proofs.YthdikknjabdfeaaDoor
