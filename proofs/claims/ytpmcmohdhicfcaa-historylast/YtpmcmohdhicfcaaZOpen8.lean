/-
  What HistoryWrites and HistoryLast are asked of, opened: a slice of events, texts and numbers in a struct.
-/
import Derived.Test.YtpmcmohdhicfcaaZOpen6
import Derived.Test.YtpmcmohdhicfcaaZP8C
namespace Go.Proofs.Ytpmcmohdhicfcaa
set_option maxRecDepth 100000
open Go.ChangeShapes Go.WideShapes Go.ChangeAt Go.RowKit
set_option linter.unusedVariables false
theorem goodI_wf {n : Int} (h : (Lit.int .i64 n).wf = true) : goodI n := i64_wf h
theorem cells5' {α : Type} {a : Array α} (h : a.size = 5) : ∃ c0 c1 c2 c3 c4, a = #[c0, c1, c2, c3, c4] := by
  obtain ⟨l⟩ := a
  match l, h with
  | [c0, c1, c2, c3, c4], _ => exact ⟨c0, c1, c2, c3, c4, rfl⟩
theorem cells4' {α : Type} {a : Array α} (h : a.size = 4) : ∃ c0 c1 c2 c3, a = #[c0, c1, c2, c3] := by
  obtain ⟨l⟩ := a
  match l, h with
  | [c0, c1, c2, c3], _ => exact ⟨c0, c1, c2, c3, rfl⟩
theorem writesIn_val {H : Type} {enc : TypeId × Value → H} {W : World} {r : Reach} {b0 : Nat} {v : Value} {d : DataW H} {p : List MemPlace} (hv : Value.okWide Try.prog W r b0 42 v)
    (h : DataW.Trod enc Try.prog W 0 (fun _ => true) true 42 v d p) (hw : (DataW.weights Try.prog 42 d).all (· ≤ reachBytes) = true) :
    ∃ (vh : Value) (L : List Ev) (s k : List UInt8) (t b : Int), v = .agg #[vh, .string ⟨s.toArray⟩, .string ⟨k.toArray⟩, .int .i64 t, .int .i64 b] ∧ IsEvs W vh L ∧ (∀ x ∈ L, goodE x) ∧ s.length ≤ 140737488351232 ∧ k.length ≤ 140737488351232 ∧ goodI t ∧ goodI b := by
  have hu := Try.underlying42
  obtain ⟨cs, rfl, hsz⟩ := okWide_struct hu hv
  have hc : Try.prog.cellsOf 42 = 5 := by kernel_rfl
  obtain ⟨c0, c1, c2, c3, c4, rfl⟩ := cells5' (hsz.trans hc)
  obtain ⟨fuel, hf⟩ := h
  obtain ⟨xs, n, _, hx, hl, hlen, hel⟩ := DataW.trod_struct hu hf
  have hlen' : xs.length = 5 := hlen
  match xs, hlen', hx, hel with
  | [y0, y1, y2, y3, y4], _, hx, hel =>
    have k9 : Try.prog.cellsOf 9 = 1 := by kernel_rfl
    have k3 : Try.prog.cellsOf 3 = 1 := by kernel_rfl
    have kE : Try.prog.cellsOf 22 = 1 := by kernel_rfl
    have g0 := hel 0 _ rfl
    have g1 := hel 1 _ rfl
    have g2 := hel 2 _ rfl
    have g3 := hel 3 _ rfl
    have g4 := hel 4 _ rfl
    simp [Value.cells, k9, k3, kE] at g0 g1 g2 g3 g4
    obtain ⟨s1, e1, rfl, _⟩ := DataW.trod_string Try.underlying9 g1
    obtain ⟨s2, e2, rfl, _⟩ := DataW.trod_string Try.underlying9 g2
    obtain ⟨n3, e3, rfl, w3⟩ := DataW.trod_int Try.underlying3 g3
    obtain ⟨n4, e4, rfl, w4⟩ := DataW.trod_int Try.underlying3 g4
    have hd := congrArg Prod.fst hx
    simp at hd
    subst hd
    simp at e1 e2 e3 e4
    subst e1 e2 e3 e4
    simp only [DataW.weights, DataW.weightsEach, hu, List.map_cons, List.map_nil, List.append_nil, List.all_append, List.all_cons, List.all_nil, Bool.and_true, Bool.and_eq_true] at hw
    obtain ⟨L, T, G, _⟩ := ev_cells g0 hw.1
    exact ⟨c0, L, s1.data.toList, s2.data.toList, n3, n4, rfl, T, G, of_decide_eq_true hw.2.1, of_decide_eq_true hw.2.2, goodI_wf w3, goodI_wf w4⟩
theorem lastIn_val {H : Type} {enc : TypeId × Value → H} {W : World} {r : Reach} {b0 : Nat} {v : Value} {d : DataW H} {p : List MemPlace} (hv : Value.okWide Try.prog W r b0 54 v)
    (h : DataW.Trod enc Try.prog W 0 (fun _ => true) true 54 v d p) (hw : (DataW.weights Try.prog 54 d).all (· ≤ reachBytes) = true) :
    ∃ (vh : Value) (L : List Ev) (t : Int) (s : List UInt8) (b : Int), v = .agg #[vh, .int .i64 t, .string ⟨s.toArray⟩, .int .i64 b] ∧ IsEvs W vh L ∧ (∀ x ∈ L, goodE x) ∧ goodI t ∧ s.length ≤ 140737488351232 ∧ goodI b := by
  have hu := Try.underlying54
  obtain ⟨cs, rfl, hsz⟩ := okWide_struct hu hv
  have hc : Try.prog.cellsOf 54 = 4 := by kernel_rfl
  obtain ⟨c0, c1, c2, c3, rfl⟩ := cells4' (hsz.trans hc)
  obtain ⟨fuel, hf⟩ := h
  obtain ⟨xs, n, _, hx, hl, hlen, hel⟩ := DataW.trod_struct hu hf
  have hlen' : xs.length = 4 := hlen
  match xs, hlen', hx, hel with
  | [y0, y1, y2, y3], _, hx, hel =>
    have k9 : Try.prog.cellsOf 9 = 1 := by kernel_rfl
    have k3 : Try.prog.cellsOf 3 = 1 := by kernel_rfl
    have kE : Try.prog.cellsOf 22 = 1 := by kernel_rfl
    have g0 := hel 0 _ rfl
    have g1 := hel 1 _ rfl
    have g2 := hel 2 _ rfl
    have g3 := hel 3 _ rfl
    simp [Value.cells, k9, k3, kE] at g0 g1 g2 g3
    obtain ⟨n1, e1, rfl, w1⟩ := DataW.trod_int Try.underlying3 g1
    obtain ⟨s2, e2, rfl, _⟩ := DataW.trod_string Try.underlying9 g2
    obtain ⟨n3, e3, rfl, w3⟩ := DataW.trod_int Try.underlying3 g3
    have hd := congrArg Prod.fst hx
    simp at hd
    subst hd
    simp at e1 e2 e3
    subst e1 e2 e3
    simp only [DataW.weights, DataW.weightsEach, hu, List.map_cons, List.map_nil, List.append_nil, List.nil_append, List.all_append, List.all_cons, List.all_nil, Bool.and_true, Bool.and_eq_true] at hw
    obtain ⟨L, T, G, _⟩ := ev_cells g0 hw.1
    exact ⟨c0, L, n1, s2.data.toList, n3, rfl, T, G, goodI_wf w1, of_decide_eq_true hw.2, goodI_wf w3⟩
end Go.Proofs.Ytpmcmohdhicfcaa
