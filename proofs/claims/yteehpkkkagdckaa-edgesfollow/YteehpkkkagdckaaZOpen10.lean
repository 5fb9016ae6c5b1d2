/-
  Edges among the arguments, opened: one by value, a slice of them.
-/
import Derived.Test.YteehpkkkagdckaaZOpen6
import Derived.Test.YteehpkkkagdckaaGE
namespace Go.Proofs.Yteehpkkkagdckaa
set_option maxRecDepth 100000
open Go.ChangeShapes Go.WideShapes Go.ChangeAt Go.RowKit
set_option linter.unusedVariables false
theorem okN_wf {n : Int} (h : (Lit.int .i64 n).wf = true) : okN n := i64_wf h
theorem ed_elem {H : Type} {enc : TypeId × Value → H} {W : World} (n : Nat) (cs' : List Value) (d' : DataW H) (p' : List MemPlace) (hl : cs'.length = 5) (h : DataW.trod enc Try.prog W 0 (fun _ => true) true n 24 cs' = some (d', p')) : ∃ x, cs' = edV x ∧ goodEd x := by
  have hu := Try.underlying24
  obtain ⟨xs, k, _, hx, hcl, hlen, hel⟩ := DataW.trod_struct hu h
  have hlen' : xs.length = 5 := hlen
  match xs, hlen', cs', hl with
  | [y0, y1, y2, y3, y4], _, [c0, c1, c2, c3, c4], _ =>
    have k3 : Try.prog.cellsOf 3 = 1 := by kernel_rfl
    have g0 := hel 0 _ rfl
    have g1 := hel 1 _ rfl
    have g2 := hel 2 _ rfl
    have g3 := hel 3 _ rfl
    have g4 := hel 4 _ rfl
    simp [k3] at g0 g1 g2 g3 g4
    obtain ⟨n0, e0, rfl, w0⟩ := DataW.trod_int Try.underlying3 g0
    obtain ⟨n1, e1, rfl, w1⟩ := DataW.trod_int Try.underlying3 g1
    obtain ⟨n2, e2, rfl, w2⟩ := DataW.trod_int Try.underlying3 g2
    obtain ⟨n3, e3, rfl, w3⟩ := DataW.trod_int Try.underlying3 g3
    obtain ⟨n4, e4, rfl, w4⟩ := DataW.trod_int Try.underlying3 g4
    simp at e0 e1 e2 e3 e4
    subst e0 e1 e2 e3 e4
    exact ⟨(n0, n1, n2, n3, n4), rfl, okN_wf w0, okN_wf w1, okN_wf w2, okN_wf w3, okN_wf w4⟩
theorem ed_arg {H : Type} {enc : TypeId × Value → H} {W : World} {v : Value} {d : DataW H} {p : List MemPlace} (hv : ∃ a n c, v = .slice a n c)
    (h : DataW.Trod enc Try.prog W 0 (fun _ => true) true 28 v d p) (hw : (DataW.weights Try.prog 28 d).all (· ≤ reachBytes) = true) : ∃ L : List Ed, IsEds W v L ∧ (∀ x ∈ L, goodEd x) ∧ L.length * 40 ≤ reachBytes := by
  obtain ⟨a, n, c, rfl⟩ := hv
  obtain ⟨fuel, hf⟩ := h
  exact rec_cells goodEd 40 Try.underlying28 (by kernel_rfl) (by omega) (by kernel_rfl) (by omega) (fun n cs' d' p' hl h hw' => ed_elem n cs' d' p' hl h) (by simpa [Value.cells] using hf) hw
/-- An edge by value. -/
theorem ed_val {H : Type} {enc : TypeId × Value → H} {W : World} {r : Reach} {b0 : Nat} {v : Value} {d : DataW H} {p : List MemPlace} (hv : Value.okWide Try.prog W r b0 24 v)
    (h : DataW.Trod enc Try.prog W 0 (fun _ => true) true 24 v d p) : ∃ x : Ed, v = .agg #[.int .i64 x.1, .int .i64 x.2.1, .int .i64 x.2.2.1, .int .i64 x.2.2.2.1, .int .i64 x.2.2.2.2] ∧ goodEd x := by
  obtain ⟨cs, rfl, hsz⟩ := okWide_struct Try.underlying24 hv
  obtain ⟨fuel, hf⟩ := h
  have hc : Try.prog.cellsOf 24 = 5 := by kernel_rfl
  obtain ⟨x, hx, hg⟩ := ed_elem fuel cs.toList d p (by rw [Array.length_toList, hsz, hc]) (by simpa [Value.cells] using hf)
  refine ⟨x, ?_, hg⟩
  have : cs = (edV x).toArray := by rw [← hx]
  rw [this]
  rfl
end Go.Proofs.Yteehpkkkagdckaa
