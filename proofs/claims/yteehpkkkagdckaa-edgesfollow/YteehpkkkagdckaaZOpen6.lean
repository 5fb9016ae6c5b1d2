/-
  Events among the arguments, opened: one by value, a slice of them.
-/
import Derived.Test.YteehpkkkagdckaaProg
import Derived.Test.YteehpkkkagdckaaGB
import Derived.WalkKit
import Derived.ProofKit
namespace Go.Proofs.Yteehpkkkagdckaa
set_option maxRecDepth 100000
open Go.ChangeShapes Go.WideShapes Go.ChangeAt Go.RowKit
set_option linter.unusedVariables false
theorem ev_cells {H : Type} {enc : TypeId × Value → H} {W : World} {m : Nat} {c : Value} {d : DataW H} {p : List MemPlace}
    (hf : DataW.trod enc Try.prog W 0 (fun _ => true) true m 22 [c] = some (d, p)) (hw : (DataW.weights Try.prog 22 d).all (· ≤ reachBytes) = true) : ∃ L : List Ev, IsEvs W c L ∧ (∀ x ∈ L, goodE x) ∧ L.length * 48 ≤ reachBytes :=
  rec_cells goodE 48 Try.underlying22 (by kernel_rfl) (by omega) (by kernel_rfl) (by omega)
    (fun n cs' d' p' hl h hw' => ev_elem Try.underlying48 (by kernel_rfl) (by kernel_rfl) (by kernel_rfl) (by kernel_rfl) (by kernel_rfl) n cs' d' p' hl h hw') hf hw
theorem ev_arg {H : Type} {enc : TypeId × Value → H} {W : World} {v : Value} {d : DataW H} {p : List MemPlace} (hv : ∃ a n c, v = .slice a n c)
    (h : DataW.Trod enc Try.prog W 0 (fun _ => true) true 22 v d p) (hw : (DataW.weights Try.prog 22 d).all (· ≤ reachBytes) = true) : ∃ L : List Ev, IsEvs W v L ∧ (∀ x ∈ L, goodE x) ∧ L.length * 48 ≤ reachBytes := by
  obtain ⟨a, n, c, rfl⟩ := hv
  obtain ⟨fuel, hf⟩ := h
  exact ev_cells (by simpa [Value.cells] using hf) hw
/-- An event by value. -/
theorem ev_val {H : Type} {enc : TypeId × Value → H} {W : World} {r : Reach} {b0 : Nat} {v : Value} {d : DataW H} {p : List MemPlace} (hv : Value.okWide Try.prog W r b0 48 v)
    (h : DataW.Trod enc Try.prog W 0 (fun _ => true) true 48 v d p) (hw : (DataW.weights Try.prog 48 d).all (· ≤ reachBytes) = true) : ∃ x : Ev, v = .agg #[.int .i64 x.1, .int .i64 x.2.1, .string ⟨x.2.2.1.toArray⟩, .string ⟨x.2.2.2.toArray⟩] ∧ goodE x := by
  obtain ⟨cs, rfl, hsz⟩ := okWide_struct Try.underlying48 hv
  obtain ⟨fuel, hf⟩ := h
  have hc : Try.prog.cellsOf 48 = 4 := by kernel_rfl
  obtain ⟨x, hx, hg⟩ := ev_elem Try.underlying48 (by kernel_rfl) (by kernel_rfl) (by kernel_rfl) (by kernel_rfl) (by kernel_rfl) fuel cs.toList d p (by rw [Array.length_toList, hsz, hc]) (by simpa [Value.cells] using hf) hw
  refine ⟨x, ?_, hg⟩
  have : cs = (evV x).toArray := by rw [← hx]
  rw [this]
  rfl
end Go.Proofs.Yteehpkkkagdckaa
