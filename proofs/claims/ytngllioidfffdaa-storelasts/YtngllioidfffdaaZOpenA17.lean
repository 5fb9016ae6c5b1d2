/-
  What is done to a store, among the arguments, opened.
-/
import Derived.Test.YtngllioidfffdaaGO
import Derived.Test.YtngllioidfffdaaZKeep17
namespace Go.Proofs.Ytngllioidfffdaa
set_option maxRecDepth 100000
open Go.ChangeShapes Go.WideShapes Go.ChangeAt Go.RowKit
set_option linter.unusedVariables false
theorem ac7_elem {H : Type} {enc : TypeId × Value → H} {W : World} (n : Nat) (cs' : List Value) (d' : DataW H) (p' : List MemPlace) (hl : cs'.length = 7) (h : DataW.trod enc Try.prog W 0 (fun _ => true) true n 56 cs' = some (d', p')) (hw : (DataW.weights Try.prog 56 d').all (· ≤ reachBytes) = true) : ∃ x, cs' = ac7V x ∧ goodAc x := by
  have hu := Try.underlying56
  obtain ⟨xs, k, _, hx, hcl, hlen, hel⟩ := DataW.trod_struct hu h
  have hlen' : xs.length = 4 := hlen
  match xs, hlen', cs', hl with
  | [y0, y1, y2, y3], _, [c0, c1, c2, c3, c4, c5, c6], _ =>
    have k3 : Try.prog.cellsOf 3 = 1 := by kernel_rfl
    have k9 : Try.prog.cellsOf 9 = 1 := by kernel_rfl
    have kE : Try.prog.cellsOf 30 = 4 := by kernel_rfl
    have g0 := hel 0 _ rfl
    have g1 := hel 1 _ rfl
    have g2 := hel 2 _ rfl
    have g3 := hel 3 _ rfl
    simp [k3, k9, kE] at g0 g1 g2 g3
    obtain ⟨n0, z0, r0, w0⟩ := DataW.trod_int Try.underlying3 g0
    obtain ⟨n1, z1, r1, w1⟩ := DataW.trod_int Try.underlying3 g1
    obtain ⟨s3, z3, r3, _⟩ := DataW.trod_string Try.underlying9 g3
    have hd := congrArg Prod.fst hx
    simp at hd
    subst hd
    simp at z0 z1 z3
    subst z0 z1 z3
    simp only [DataW.weights, hu, List.map_cons, List.map_nil] at hw
    simp only [DataW.weightsEach, List.append_nil, List.all_append, Bool.and_eq_true] at hw
    obtain ⟨x, hx2, hg⟩ := ev_elem Try.underlying30 (by kernel_rfl) (by kernel_rfl) (by kernel_rfl) (by kernel_rfl) (by kernel_rfl) k [c2, c3, c4, c5] y2.1 y2.2 rfl g2 hw.2.2.1
    have h3 := hw.2.2.2
    have e3 : y3.1 = .lit (.string s3.data.toList) := by rw [r3]
    rw [e3] at h3
    simp only [DataW.weights, List.all_cons, List.all_nil, Bool.and_true] at h3
    have zs : s3.data.toList.length ≤ 140737488351232 := of_decide_eq_true h3
    unfold evV at hx2
    simp only [List.cons.injEq, and_true] at hx2
    obtain ⟨rfl, rfl, rfl, rfl⟩ := hx2
    exact ⟨(n0, n1, x, s3.data.toList), rfl, i64_wf w1, zs⟩
theorem ac7_arg {H : Type} {enc : TypeId × Value → H} {W : World} {v : Value} {d : DataW H} {p : List MemPlace} (hv : ∃ a n c, v = .slice a n c)
    (h : DataW.Trod enc Try.prog W 0 (fun _ => true) true 53 v d p) (hw : (DataW.weights Try.prog 53 d).all (· ≤ reachBytes) = true) : ∃ L : List Ac7, IsRec 7 ac7V W v L ∧ ∀ x ∈ L, goodAc x := by
  obtain ⟨a, n, c, rfl⟩ := hv
  obtain ⟨fuel, hf⟩ := h
  obtain ⟨L, h1, h2, h3⟩ := rec_cells (sz := 7) (rec := ac7V) goodAc 80 Try.underlying53 (by kernel_rfl) (by omega) (by kernel_rfl) (by omega) (fun n cs' d' p' hl h hw' => ac7_elem n cs' d' p' hl h hw') (by simpa [Value.cells] using hf) hw
  exact ⟨L, h1, h2⟩
end Go.Proofs.Ytngllioidfffdaa
