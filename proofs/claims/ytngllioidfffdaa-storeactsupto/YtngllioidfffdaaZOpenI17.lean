/-
  What StoreActs is asked of, opened.
-/
import Derived.Test.YtngllioidfffdaaGO
namespace Go.Proofs.Ytngllioidfffdaa
set_option maxRecDepth 100000
open Go.ChangeShapes Go.WideShapes Go.ChangeAt Go.RowKit
set_option linter.unusedVariables false
theorem cells22 {α : Type} {a : Array α} (h : a.size = 22) : ∃ c0 c1 c2 c3 c4 c5 c6 c7 c8 c9 c10 c11 c12 c13 c14 c15 c16 c17 c18 c19 c20 c21, a = #[c0, c1, c2, c3, c4, c5, c6, c7, c8, c9, c10, c11, c12, c13, c14, c15, c16, c17, c18, c19, c20, c21] := by
  obtain ⟨l⟩ := a
  match l, h with
  | [c0, c1, c2, c3, c4, c5, c6, c7, c8, c9, c10, c11, c12, c13, c14, c15, c16, c17, c18, c19, c20, c21], _ => exact ⟨c0, c1, c2, c3, c4, c5, c6, c7, c8, c9, c10, c11, c12, c13, c14, c15, c16, c17, c18, c19, c20, c21, rfl⟩
set_option maxHeartbeats 2000000 in
theorem actsIn_val17 {H : Type} {enc : TypeId × Value → H} {W : World} {rc : Reach} {b0 : Nat} {v : Value} {d : DataW H} {q : List MemPlace} (hv : Value.okWide Try.prog W rc b0 32 v)
    (h : DataW.Trod enc Try.prog W 0 (fun _ => true) true 32 v d q) (hw : (DataW.weights Try.prog 32 d).all (· ≤ reachBytes) = true) :
    ∃ (s p : List UInt8) (r f : Int) (o : Bool) (vo vh vc : Value) (H' : List Value) (x : Sd) (k t : Int) (a b body : List UInt8) (n : Int) (s9 p9 : List UInt8) (r9 f9 : Int) (o9 : Bool) (wo wh wc : Value) (G9 : List Value) (z9 : Sd), v = .agg (stC (s, p, r, f, o) vo vh vc ++ #[.int .i64 k, .int .i64 t, .string ⟨a.toArray⟩, .string ⟨b.toArray⟩] ++ #[.string ⟨body.toArray⟩, .int .i64 n] ++ stC (s9, p9, r9, f9, o9) wo wh wc) ∧
      StIn W vo vh vc H' x ∧ StIn W wo wh wc G9 z9 ∧ ((-9223372036854775808 ≤ r ∧ r ≤ 9223372036854775807) ∧ (-9223372036854775808 ≤ f ∧ f ≤ 9223372036854775807) ∧ s.length ≤ 140737488351232 ∧ p.length ≤ 140737488351232) ∧ s.length + p.length ≤ Rows.uptoBulk d ∧ body.length ≤ 140737488351232 := by
  have hu := Try.underlying32
  obtain ⟨cs, rfl, hsz⟩ := okWide_struct hu hv
  have hc : Try.prog.cellsOf 32 = 22 := by kernel_rfl
  obtain ⟨c0, c1, c2, c3, c4, c5, c6, c7, c8, c9, c10, c11, c12, c13, c14, c15, c16, c17, c18, c19, c20, c21, rfl⟩ := cells22 (hsz.trans hc)
  obtain ⟨fuel, hf⟩ := h
  obtain ⟨xs, k, _, hx, hl, hlen, hel⟩ := DataW.trod_struct hu hf
  have hlen' : xs.length = 5 := hlen
  match xs, hlen', hx, hel with
  | [y0, y1, y2, y3, y4], _, hx, hel =>
    have k9 : Try.prog.cellsOf 9 = 1 := by kernel_rfl
    have k3 : Try.prog.cellsOf 3 = 1 := by kernel_rfl
    have kS : Try.prog.cellsOf 28 = 8 := by kernel_rfl
    have kE : Try.prog.cellsOf 30 = 4 := by kernel_rfl
    have g0 := hel 0 _ rfl
    have g1 := hel 1 _ rfl
    have g2 := hel 2 _ rfl
    have g3 := hel 3 _ rfl
    have g4 := hel 4 _ rfl
    simp [Value.cells, k9, k3, kS, kE] at g0 g1 g2 g3 g4
    have hd := congrArg Prod.fst hx
    simp at hd
    subst hd
    simp only [DataW.weights, hu, List.map_cons, List.map_nil] at hw
    simp only [DataW.weightsEach, List.append_nil, List.all_append, Bool.and_eq_true] at hw
    obtain ⟨s, p, r, f, o, vo, vh, vc, H', x, e0, hS, hg, hb0⟩ := sto_elem17 k [c0, c1, c2, c3, c4, c5, c6, c7] y0.1 y0.2 rfl g0 hw.1
    obtain ⟨⟨ek, et, ea, eb⟩, e1, _⟩ := ev_elem Try.underlying30 (by kernel_rfl) (by kernel_rfl) (by kernel_rfl) (by kernel_rfl) (by kernel_rfl) k [c8, c9, c10, c11] y1.1 y1.2 rfl g1 hw.2.1
    obtain ⟨s2, z2, r2, _⟩ := DataW.trod_string Try.underlying9 g2
    obtain ⟨n3, z3, r3, _⟩ := DataW.trod_int Try.underlying3 g3
    obtain ⟨s9, p9, r9, f9, o9, wo, wh, wc, G9, z9, e4, hO, _, _⟩ := sto_elem17 k [c14, c15, c16, c17, c18, c19, c20, c21] y4.1 y4.2 rfl g4 hw.2.2.2.2
    have h2 := hw.2.2.1
    have e2 : y2.1 = .lit (.string s2.data.toList) := by rw [r2]
    rw [e2] at h2
    simp only [DataW.weights, List.all_cons, List.all_nil, Bool.and_true] at h2
    have zb : s2.data.toList.length ≤ 140737488351232 := of_decide_eq_true h2
    simp at z2 z3
    subst z2 z3
    unfold stC at e0 e4
    unfold evV at e1
    simp only [List.cons.injEq, and_true] at e0 e1 e4
    obtain ⟨rfl, rfl, rfl, rfl, rfl, rfl, rfl, rfl⟩ := e0
    obtain ⟨rfl, rfl, rfl, rfl⟩ := e1
    obtain ⟨rfl, rfl, rfl, rfl, rfl, rfl, rfl, rfl⟩ := e4
    refine ⟨s, p, r, f, o, _, _, _, H', x, ek, et, ea, eb, s2.data.toList, n3, s9, p9, r9, f9, o9, _, _, _, G9, z9, (by unfold stC; simp), hS, hO, hg, ?_, zb⟩
    simp only [Rows.uptoBulk, Rows.uptoBulkAll]
    omega
end Go.Proofs.Ytngllioidfffdaa
