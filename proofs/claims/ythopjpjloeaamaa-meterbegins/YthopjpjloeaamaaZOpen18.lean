/-
  Meters, times and costs among the arguments, opened.
-/
import Derived.Test.YthopjpjloeaamaaProg
import Derived.Test.YthopjpjloeaamaaZMeter18
import Derived.Test.YthopjpjloeaamaaZLife8
import Derived.Test.YthopjpjloeaamaaZEvs
import Derived.WalkKit
import Derived.ProofKit
namespace Go.Proofs.Ythopjpjloeaamaa
set_option maxRecDepth 100000
open Go.ChangeShapes Go.WideShapes Go.ChangeAt Go.RowKit
set_option linter.unusedVariables false
theorem u64_wf18 {n : Int} (h : (Lit.int .u64 n).wf = true) : 0 ≤ n ∧ n ≤ 18446744073709551615 := by
  simp [Lit.wf, IntKind.min, IntKind.max, IntKind.signed, IntKind.bits] at h
  omega
theorem mt_val18 {H : Type} {enc : TypeId × Value → H} {W : World} {rc : Reach} {b0 : Nat} {v : Value} {d : DataW H} {q : List MemPlace} (hv : Value.okWide Try.prog W rc b0 24 v)
    (h : DataW.Trod enc Try.prog W 0 (fun _ => true) true 24 v d q) : ∃ a l, v = mtV (a, l) ∧ goodM (a, l) ∧ d = .agg [.lit (.int .u64 a), .lit (.int .i64 l)] := by
  have hu := Try.underlying24
  obtain ⟨cs, rfl, hsz⟩ := okWide_struct hu hv
  obtain ⟨fuel, hf⟩ := h
  have hc : Try.prog.cellsOf 24 = 2 := by kernel_rfl
  have hl : cs.toList.length = 2 := by rw [Array.length_toList, hsz, hc]
  have hf2 : DataW.trod enc Try.prog W 0 (fun _ => true) true fuel 24 cs.toList = some (d, q) := by simpa [Value.cells] using hf
  obtain ⟨xs, k, _, hx, hcl, hlen, hel⟩ := DataW.trod_struct hu hf2
  have hlen' : xs.length = 2 := hlen
  have hcs : cs = cs.toList.toArray := by simp
  generalize cs.toList = cs' at hl hx hcl hel hcs
  match xs, hlen', cs', hl with
  | [y0, y1], _, [c0, c1], _ =>
    have k3 : Try.prog.cellsOf 3 = 1 := by kernel_rfl
    have ku : Try.prog.cellsOf 22 = 1 := by kernel_rfl
    have g0 := hel 0 _ rfl
    have g1 := hel 1 _ rfl
    simp [k3, ku] at g0 g1
    obtain ⟨n0, e0, rfl, w0⟩ := DataW.trod_int Try.underlying22 g0
    obtain ⟨n1, e1, rfl, w1⟩ := DataW.trod_int Try.underlying3 g1
    have hd := congrArg Prod.fst hx
    simp at hd
    subst hd
    simp at e0 e1
    subst e0 e1
    refine ⟨n0, n1, by rw [hcs]; rfl, ⟨u64_wf18 w0, i64_wf w1⟩, rfl⟩
theorem int_arg18 {H : Type} {enc : TypeId × Value → H} {W : World} {v : Value} {d : DataW H} {p : List MemPlace} (hv : ∃ a n c, v = .slice a n c)
    (h : DataW.Trod enc Try.prog W 0 (fun _ => true) true 34 v d p) (hw : (DataW.weights Try.prog 34 d).all (· ≤ reachBytes) = true) : ∃ L : List Int, IsInts W v L := by
  obtain ⟨a, n, c, rfl⟩ := hv
  obtain ⟨fuel, hf⟩ := h
  obtain ⟨L, h1, _⟩ := rec_cells (sz := 1) (rec := intV) (fun _ => True) 8 Try.underlying34 (by kernel_rfl) (by omega) (by kernel_rfl) (by omega) (fun n cs' d' p' hl h hw' => by obtain ⟨n0, e0, hx, w0⟩ := DataW.trod_int Try.underlying3 h; exact ⟨n0, by rw [e0]; rfl, trivial⟩) (by simpa [Value.cells] using hf) hw
  exact ⟨L, h1⟩
end Go.Proofs.Ythopjpjloeaamaa
