/-
  Tapes, what is done to them, and what TapeActs is asked of, opened.
-/
import Derived.Test.YtlaidbaghjlpfaaProg
import Derived.Test.YtlaidbaghjlpfaaZActs16
import Derived.WalkKit
import Derived.ProofKit
namespace Go.Proofs.Ytlaidbaghjlpfaa
set_option maxRecDepth 100000
open Go.ChangeShapes Go.WideShapes Go.ChangeAt Go.RowKit
set_option linter.unusedVariables false
theorem ac_arg {H : Type} {enc : TypeId × Value → H} {W : World} {v : Value} {d : DataW H} {p : List MemPlace} (hv : ∃ a n c, v = .slice a n c)
    (h : DataW.Trod enc Try.prog W 0 (fun _ => true) true 43 v d p) (hw : (DataW.weights Try.prog 43 d).all (· ≤ reachBytes) = true) : ∃ L : List Ac, IsActs W v L ∧ ∀ x ∈ L, goodA x := by
  obtain ⟨a, n, c, rfl⟩ := hv
  obtain ⟨fuel, hf⟩ := h
  obtain ⟨L, h1, h2, h3⟩ := rec_cells (sz := 3) (rec := acV) goodA 32 Try.underlying43 (by kernel_rfl) (by omega) (by kernel_rfl) (by omega) (fun n cs' d' p' hl h hw' => ac_elem Try.underlying45 (by kernel_rfl) (by kernel_rfl) (by kernel_rfl) (by kernel_rfl) n cs' d' p' hl h hw') (by simpa [Value.cells] using hf) hw
  exact ⟨L, h1, h2⟩
/-- What a tape is read as. -/
abbrev tpD {H : Type} (s p : List UInt8) (r f : Int) (o : Bool) : DataW H := .agg [.lit (.string s), .lit (.string p), .lit (.int .i64 r), .lit (.int .i64 f), .lit (.bool o)]
theorem tp_elem {H : Type} {enc : TypeId × Value → H} {W : World} (n : Nat) (cs' : List Value) (d' : DataW H) (p' : List MemPlace) (hl : cs'.length = 5) (h : DataW.trod enc Try.prog W 0 (fun _ => true) true n 23 cs' = some (d', p')) :
    ∃ s p r f o, cs' = [.string ⟨s.toArray⟩, .string ⟨p.toArray⟩, .int .i64 r, .int .i64 f, .bool o] ∧ d' = tpD s p r f o ∧ (-9223372036854775808 ≤ r ∧ r ≤ 9223372036854775807) ∧ (-9223372036854775808 ≤ f ∧ f ≤ 9223372036854775807) := by
  have hu := Try.underlying23
  obtain ⟨xs, k, _, hx, hcl, hlen, hel⟩ := DataW.trod_struct hu h
  have hlen' : xs.length = 5 := hlen
  match xs, hlen', cs', hl with
  | [y0, y1, y2, y3, y4], _, [c0, c1, c2, c3, c4], _ =>
    have k3 : Try.prog.cellsOf 3 = 1 := by kernel_rfl
    have k4 : Try.prog.cellsOf 4 = 1 := by kernel_rfl
    have k9 : Try.prog.cellsOf 9 = 1 := by kernel_rfl
    have g0 := hel 0 _ rfl
    have g1 := hel 1 _ rfl
    have g2 := hel 2 _ rfl
    have g3 := hel 3 _ rfl
    have g4 := hel 4 _ rfl
    simp [k3, k4, k9] at g0 g1 g2 g3 g4
    obtain ⟨s0, e0, rfl, _⟩ := DataW.trod_string Try.underlying9 g0
    obtain ⟨s1, e1, rfl, _⟩ := DataW.trod_string Try.underlying9 g1
    obtain ⟨n2, e2, rfl, w2⟩ := DataW.trod_int Try.underlying3 g2
    obtain ⟨n3, e3, rfl, w3⟩ := DataW.trod_int Try.underlying3 g3
    obtain ⟨b4, e4, rfl⟩ := DataW.trod_bool Try.underlying4 g4
    have hd := congrArg Prod.fst hx
    simp at hd
    subst hd
    simp at e0 e1 e2 e3 e4
    subst e0 e1 e2 e3 e4
    exact ⟨s0.data.toList, s1.data.toList, n2, n3, b4, rfl, rfl, i64_wf w2, i64_wf w3⟩
theorem tp_val {H : Type} {enc : TypeId × Value → H} {W : World} {rc : Reach} {b0 : Nat} {v : Value} {d : DataW H} {q : List MemPlace} (hv : Value.okWide Try.prog W rc b0 23 v)
    (h : DataW.Trod enc Try.prog W 0 (fun _ => true) true 23 v d q) :
    ∃ s p r f o, v = tpV (s, p, r, f, o) ∧ d = tpD s p r f o ∧ (-9223372036854775808 ≤ r ∧ r ≤ 9223372036854775807) ∧ (-9223372036854775808 ≤ f ∧ f ≤ 9223372036854775807) := by
  obtain ⟨cs, rfl, hsz⟩ := okWide_struct Try.underlying23 hv
  obtain ⟨fuel, hf⟩ := h
  have hc : Try.prog.cellsOf 23 = 5 := by kernel_rfl
  obtain ⟨s, p, r, f, o, hx, hd, w1, w2⟩ := tp_elem fuel cs.toList d q (by rw [Array.length_toList, hsz, hc]) (by simpa [Value.cells] using hf)
  refine ⟨s, p, r, f, o, ?_, hd, w1, w2⟩
  have : cs = #[.string ⟨s.toArray⟩, .string ⟨p.toArray⟩, .int .i64 r, .int .i64 f, .bool o] := by rw [← Array.toArray_toList (xs := cs), hx]
  rw [this]
  rfl
theorem cells8 {α : Type} {a : Array α} (h : a.size = 8) : ∃ c0 c1 c2 c3 c4 c5 c6 c7, a = #[c0, c1, c2, c3, c4, c5, c6, c7] := by
  obtain ⟨l⟩ := a
  match l, h with
  | [c0, c1, c2, c3, c4, c5, c6, c7], _ => exact ⟨c0, c1, c2, c3, c4, c5, c6, c7, rfl⟩
theorem actsIn_val {H : Type} {enc : TypeId × Value → H} {W : World} {rc : Reach} {b0 : Nat} {v : Value} {d : DataW H} {q : List MemPlace} (hv : Value.okWide Try.prog W rc b0 25 v)
    (h : DataW.Trod enc Try.prog W 0 (fun _ => true) true 25 v d q) :
    ∃ s p rec S r f n o, v = .agg #[.string ⟨s.toArray⟩, .string ⟨p.toArray⟩, .int .i64 r, .int .i64 f, .bool o, .string ⟨rec.toArray⟩, .int .i64 n, .string ⟨S.toArray⟩] ∧
      d = .agg [tpD s p r f o, .lit (.string rec), .lit (.int .i64 n), .lit (.string S)] ∧ (-9223372036854775808 ≤ r ∧ r ≤ 9223372036854775807) ∧ (-9223372036854775808 ≤ f ∧ f ≤ 9223372036854775807) := by
  have hu := Try.underlying25
  obtain ⟨cs, rfl, hsz⟩ := okWide_struct hu hv
  have hc : Try.prog.cellsOf 25 = 8 := by kernel_rfl
  obtain ⟨c0, c1, c2, c3, c4, c5, c6, c7, rfl⟩ := cells8 (hsz.trans hc)
  obtain ⟨fuel, hf⟩ := h
  obtain ⟨xs, k, _, hx, hl, hlen, hel⟩ := DataW.trod_struct hu hf
  have hlen' : xs.length = 4 := hlen
  match xs, hlen', hx, hel with
  | [y0, y1, y2, y3], _, hx, hel =>
    have k9 : Try.prog.cellsOf 9 = 1 := by kernel_rfl
    have k3 : Try.prog.cellsOf 3 = 1 := by kernel_rfl
    have kT : Try.prog.cellsOf 23 = 5 := by kernel_rfl
    have g0 := hel 0 _ rfl
    have g1 := hel 1 _ rfl
    have g2 := hel 2 _ rfl
    have g3 := hel 3 _ rfl
    simp [Value.cells, k9, k3, kT] at g0 g1 g2 g3
    obtain ⟨s1, e1, rfl, _⟩ := DataW.trod_string Try.underlying9 g1
    obtain ⟨n2, e2, rfl, w2⟩ := DataW.trod_int Try.underlying3 g2
    obtain ⟨s3, e3, rfl, _⟩ := DataW.trod_string Try.underlying9 g3
    obtain ⟨s, p, r, f, o, ht, hdt, w0, w1⟩ := tp_elem k [c0, c1, c2, c3, c4] y0.1 y0.2 rfl g0
    have hd := congrArg Prod.fst hx
    simp at hd
    subst hd
    simp at e1 e2 e3
    subst e1 e2 e3
    simp only [List.cons.injEq, and_true] at ht
    obtain ⟨rfl, rfl, rfl, rfl, rfl⟩ := ht
    refine ⟨s, p, s1.data.toList, s3.data.toList, r, f, n2, o, rfl, ?_, w0, w1⟩
    rw [hdt]
end Go.Proofs.Ytlaidbaghjlpfaa
