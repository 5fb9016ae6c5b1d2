/-
  Operations taken out of a region that draws its order, with one closed fact each: of no program.
-/
import Derived.Test.YthopjpjloeaamaaGH
namespace Go.Proofs.Ythopjpjloeaamaa
set_option maxRecDepth 100000
open Go.RowKit
set_option linter.unusedVariables false
section
variable {P : Program} {md : Region.Mode} {ops : Array Oper} {Q : Exit → Act → World → Prop}
def takeB (md : Region.Mode) (ops : Array Oper) (listed : Array Bool) (d i : Nat) (o : Oper) (a : Act) : Bool :=
  Region.noSelect ops && (Region.free md ops listed i && ((Region.ready md ops listed).contains i && (Region.waitsFor md ops d i && (!listed.getD d false && Region.wanted o (yielded ops a.tmps)))))
theorem takeD {C : World → Prop} {d : Nat} (i : Nat) (v : Value) {oi : Oper} {f : Nat} {listed : Array Bool} {a : Act} {w : World} (hi : ops[i]? = some oi) (hb : takeB md ops listed d i oi a = true)
    (hQ : ∀ c a w, Q (.panic c) (a.put oi.dst v) w → Q (.panic c) a w) (hy : ∀ V, C V → (execOp a.eval oi).run P V = .ok (.value v) V)
    (h : wpAnyC C d P md ops Q f (listed.setIfInBounds i true) (a.put oi.dst v) w) : wpAnyC C d P md ops Q (f + 1) listed a w := by
  unfold takeB at hb
  simp only [Bool.and_eq_true, Bool.not_eq_true'] at hb
  obtain ⟨h1, h2, h3, h4, h5, h6⟩ := hb
  exact takeC hi h1 h2 h3 h4 h5 hQ (.inl ⟨h6, hy⟩) h
end
end Go.Proofs.Ythopjpjloeaamaa
