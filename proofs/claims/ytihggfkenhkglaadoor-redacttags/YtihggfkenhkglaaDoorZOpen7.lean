/-
  What RedactTags is asked of, opened: three texts and an event.
-/
import Derived.Test.YtihggfkenhkglaaDoorZOpen6
namespace Go.Proofs.YtihggfkenhkglaaDoor
set_option maxRecDepth 100000
open Go.ChangeShapes Go.WideShapes Go.ChangeAt Go.RowKit
set_option linter.unusedVariables false
theorem cells7 {α : Type} {a : Array α} (h : a.size = 7) : ∃ c0 c1 c2 c3 c4 c5 c6, a = #[c0, c1, c2, c3, c4, c5, c6] := by
  obtain ⟨l⟩ := a
  match l, h with
  | [c0, c1, c2, c3, c4, c5, c6], _ => exact ⟨c0, c1, c2, c3, c4, c5, c6, rfl⟩
theorem tagsIn_val {H : Type} {enc : TypeId × Value → H} {W : World} {r : Reach} {b0 : Nat} {v : Value} {d : DataW H} {p : List MemPlace} (hv : Value.okWide Tryd.prog W r b0 25 v)
    (h : DataW.Trod enc Tryd.prog W 0 (fun _ => true) true 25 v d p) (hw : (DataW.weights Tryd.prog 25 d).all (· ≤ reachBytes) = true) :
    ∃ (s k u : List UInt8) (x : Ev), v = .agg #[.string ⟨s.toArray⟩, .string ⟨k.toArray⟩, .string ⟨u.toArray⟩, .int .i64 x.1, .int .i64 x.2.1, .string ⟨x.2.2.1.toArray⟩, .string ⟨x.2.2.2.toArray⟩] ∧ s.length ≤ 140737488351232 ∧ k.length ≤ 140737488351232 ∧ u.length ≤ 140737488351232 ∧ goodE x := by
  have hu := Tryd.underlying25
  obtain ⟨cs, rfl, hsz⟩ := okWide_struct hu hv
  have hc : Tryd.prog.cellsOf 25 = 7 := by kernel_rfl
  obtain ⟨c0, c1, c2, c3, c4, c5, c6, rfl⟩ := cells7 (hsz.trans hc)
  obtain ⟨fuel, hf⟩ := h
  obtain ⟨xs, n, _, hx, hl, hlen, hel⟩ := DataW.trod_struct hu hf
  have hlen' : xs.length = 4 := hlen
  match xs, hlen', hx, hel with
  | [y0, y1, y2, y3], _, hx, hel =>
    have k9 : Tryd.prog.cellsOf 9 = 1 := by kernel_rfl
    have kE : Tryd.prog.cellsOf 23 = 4 := by kernel_rfl
    have g0 := hel 0 _ rfl
    have g1 := hel 1 _ rfl
    have g2 := hel 2 _ rfl
    have g3 := hel 3 _ rfl
    simp [Value.cells, k9, kE] at g0 g1 g2 g3
    obtain ⟨s0, e0, rfl, _⟩ := DataW.trod_string Tryd.underlying9 g0
    obtain ⟨s1, e1, rfl, _⟩ := DataW.trod_string Tryd.underlying9 g1
    obtain ⟨s2, e2, rfl, _⟩ := DataW.trod_string Tryd.underlying9 g2
    have hd := congrArg Prod.fst hx
    simp at hd
    subst hd
    simp at e0 e1 e2
    subst e0 e1 e2
    simp only [DataW.weights, DataW.weightsEach, hu, List.map_cons, List.map_nil, List.append_nil, List.all_append, List.all_cons, List.all_nil, Bool.and_true, Bool.and_eq_true] at hw
    obtain ⟨x, hx2, hg⟩ := ev_elem Tryd.underlying23 (by kernel_rfl) (by kernel_rfl) (by kernel_rfl) (by kernel_rfl) (by kernel_rfl) n [c3, c4, c5, c6] y3.1 y3.2 rfl g3 hw.2.2.2
    have z0 : s0.data.toList.length ≤ 140737488351232 := of_decide_eq_true hw.1
    have z1 : s1.data.toList.length ≤ 140737488351232 := of_decide_eq_true hw.2.1
    have z2 : s2.data.toList.length ≤ 140737488351232 := of_decide_eq_true hw.2.2.1
    refine ⟨s0.data.toList, s1.data.toList, s2.data.toList, x, ?_, z0, z1, z2, hg⟩
    unfold evV at hx2
    simp only [List.cons.injEq, and_true] at hx2
    obtain ⟨rfl, rfl, rfl, rfl⟩ := hx2
    rfl
end Go.Proofs.YtihggfkenhkglaaDoor
