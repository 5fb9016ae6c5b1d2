/-
  A struct by value: eight words, a text, a count, and one more field: opened.
-/
import Derived.Test.YthdikknjabdfeaaDoorProg
import Derived.Test.YthdikknjabdfeaaDoorLaid2
import Derived.WalkKit
import Derived.ShutString
namespace Go.Proofs.YthdikknjabdfeaaDoor
open Go.ChangeShapes Go.WideShapes Go.ChangeAt Go.RowKit
set_option linter.unusedVariables false
theorem array11 {α : Type} {a : Array α} (h : a.size = 11) : ∃ x0 x1 x2 x3 x4 x5 x6 x7 x8 x9 x10, a = #[x0, x1, x2, x3, x4, x5, x6, x7, x8, x9, x10] := by
  obtain ⟨l⟩ := a
  match l, h with
  | [x0, x1, x2, x3, x4, x5, x6, x7, x8, x9, x10], _ => exact ⟨x0, x1, x2, x3, x4, x5, x6, x7, x8, x9, x10, rfl⟩
theorem words_of {H : Type} {enc : TypeId × Value → H} {P : Program} {w : World} {base : Nat} {spare : Nat → Bool} {held : Bool} {fuel : Nat} {t e : TypeId} {n : Nat} {k : IntKind} {cs : List Value} {x : DataW H × List MemPlace}
    (ht : P.underlying t = some (.array n e)) (he : P.underlying e = some (.int k)) (hc : P.cellsOf e = 1) (hct : P.cellsOf t = n) (h : DataW.trod enc P w base spare held fuel t cs = some x) :
    ∃ vs : List Int, vs.length = n ∧ cs = vs.map (Value.int k) := by
  obtain ⟨xs, m, rfl, hx, hlen, hn, hel⟩ := DataW.trod_array ht h
  have hall : ∀ i, i < n → ∃ q, cs[i]? = some (.int k q) := fun i hi => by
    have h1 := hel i hi
    rw [hc, Nat.mul_one, List.getElem?_eq_getElem (by omega)] at h1
    obtain ⟨q, e1, e2, _⟩ := DataW.trod_int he h1
    have h3 : (cs.drop i).take 1 = [cs[i]'(by omega)] := by
      rw [List.drop_eq_getElem_cons (by omega)]; rfl
    rw [h3] at e1
    exact ⟨q, by rw [List.getElem?_eq_getElem (by omega)]; simpa using e1⟩
  refine ⟨(List.range n).map fun i => (match (cs[i]? : Option Value) with | some (Value.int _ q) => q | _ => (0 : Int)), by simp, ?_⟩
  apply List.ext_getElem?
  intro i
  by_cases hi : i < n
  · obtain ⟨q, hq⟩ := hall i hi
    simp [hi, hq]
  · rw [List.getElem?_eq_none (by omega), List.getElem?_eq_none (by simp; omega)]
/-- The struct of BlakeRefuses and BlakeBlocks, but for its last field. -/
theorem open_in {H : Type} {enc : TypeId × Value → H} {w : World} {base b0 : Nat} {spare : Nat → Bool} {held : Bool} {r : Reach} {t : TypeId} {f0 f1 f2 f3 : Field} {v : Value} {d : DataW H} {p : List MemPlace}
    (hs : Tryd.prog.underlying t = some (.struct #[f0, f1, f2, f3])) (h0 : f0.type = 24 ∧ f0.offset = 0) (h1 : f1.type = 9 ∧ f1.offset = 8) (h2 : f2.type = 31 ∧ f2.offset = 9) (h3 : f3.offset = 10 ∧ Tryd.prog.cellsOf f3.type = 1) (hC : Tryd.prog.cellsOf t = 11)
    (hv : Value.okWide Tryd.prog w r b0 t v) (h : DataW.Trod enc Tryd.prog w base spare held t v d p) :
    ∃ (V : List Int) (B : List UInt8) (T : Nat) (y : Value) (n : Nat) (x : DataW H × List MemPlace), V.length = 8 ∧ T < 18446744073709551616 ∧ v = .agg #[.int .u32 (at_ V 0), .int .u32 (at_ V 1), .int .u32 (at_ V 2), .int .u32 (at_ V 3), .int .u32 (at_ V 4), .int .u32 (at_ V 5), .int .u32 (at_ V 6), .int .u32 (at_ V 7), .string ⟨B.toArray⟩, .int .u64 T, y] ∧ DataW.trod enc Tryd.prog w base spare held n f3.type [y] = some x := by
  obtain ⟨cs, rfl, hsz⟩ := okWide_struct hs hv
  obtain ⟨c0, c1, c2, c3, c4, c5, c6, c7, c8, c9, c10, rfl⟩ := array11 (hsz.trans hC)
  obtain ⟨fuel, hf⟩ := h
  obtain ⟨xs, n, rfl, hx, hlen, hn, hel⟩ := DataW.trod_struct hs hf
  have hn4 : xs.length = 4 := hn
  match xs, hn4, hel with
  | [x0, x1, x2, x3], _, hel =>
    have e0 := hel 0 f0 rfl
    have e1 := hel 1 f1 rfl
    have e2 := hel 2 f2 rfl
    have e3 := hel 3 f3 rfl
    rw [h0.1, h0.2, show Tryd.prog.cellsOf 24 = 8 by kernel_rfl] at e0
    rw [h1.1, h1.2, show Tryd.prog.cellsOf 9 = 1 by kernel_rfl] at e1
    rw [h2.1, h2.2, show Tryd.prog.cellsOf 31 = 1 by kernel_rfl] at e2
    rw [h3.1, h3.2] at e3
    simp only [Value.cells, List.drop_zero, List.drop_succ_cons, List.take_succ_cons, List.take_zero, List.getElem?_cons_zero, List.getElem?_cons_succ] at e0 e1 e2 e3
    obtain ⟨V, lV, hV⟩ := words_of Tryd.underlying24 Tryd.underlying23 (by kernel_rfl) (by kernel_rfl) e0
    obtain ⟨T, eT, _, wT⟩ := DataW.trod_int Tryd.underlying31 e2
    obtain ⟨s, eS, _⟩ := DataW.trod_string Tryd.underlying9 e1
    match V, lV, hV with
    | [a0, a1, a2, a3, a4, a5, a6, a7], lV, hV =>
      simp only [List.map_cons, List.map_nil, List.cons.injEq, and_true] at hV
      obtain ⟨rfl, rfl, rfl, rfl, rfl, rfl, rfl, rfl⟩ := hV
      simp only [List.cons.injEq, and_true] at eT eS
      subst eT eS
      have hT := bounds_u64 wT
      refine ⟨[a0, a1, a2, a3, a4, a5, a6, a7], s.data.toList, T.toNat, c10, n, x3, rfl, by omega, ?_, e3⟩
      have e1 : (T.toNat : Int) = T := by omega
      rw [e1, ← ba_of]
      rfl
end Go.Proofs.YthdikknjabdfeaaDoor
