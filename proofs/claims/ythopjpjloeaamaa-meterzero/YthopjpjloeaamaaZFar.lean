/-
  A region that draws its order and only reads, but for calls that leave what was there as it was: walked once, by the library's words for quiet regions. Of no program.
-/
import Derived.Test.YthopjpjloeaamaaGB
import Derived.Deep.QuietTactic
import Derived.BigQuiet
import Derived.Below
namespace Go.Proofs.Ythopjpjloeaamaa
set_option maxRecDepth 100000
open Go.RowKit
set_option linter.unusedVariables false
/-- A world in which all is as it was, and more. -/
def farW (w U : World) (d : Decidable (Below w.heap.size w U) := Classical.propDecidable _) : World := @ite World (Below w.heap.size w U) d U w
theorem farW_eq {w U : World} (h : Below w.heap.size w U) : farW w U = U := by unfold farW; rw [if_pos h]
theorem farW_bel (w U : World) : Below w.heap.size w (farW w U) := by
  unfold farW
  split
  · assumption
  · exact Below.refl _ _
theorem farW_cell (w U : World) (a : Addr) (h : (w.cell? a).isSome = true) : (farW w U).cell? a = w.cell? a := by
  obtain ⟨v, hv⟩ := Option.isSome_iff_exists.1 h
  exact (farW_bel w U).cell (World.block_lt_of_cell? w a hv)
section
variable {P : Program}
theorem region_far {id : Nat} {Q : Exit → Act → World → Prop} {a : Act} {w : World} {l : List Oper} (hm : P.follows .mixedOrders = true) (hB : Region.lexB .any l.toArray = true)
    (h : wpQuiet P l.toArray (fun w' => ∃ U, w' = farW w U) (fun a' => ∀ w', (∃ U, w' = farW w U) → Q .normal a' w') l a) : (Code.region id l.toArray true).wp P Q a w :=
  wp_region_quiet (C := fun w' => ∃ U, w' = farW w U) hm hB ⟨w.drew, (farW_eq (Below.refl _ _).drew).symm⟩ (by simpa using h)
/-- A callee's contract, met in such a world. -/
theorem calls_far {f : FuncId} {args : Array Value} {w U : World} {v : Value} (h : Calls P f args (farW w U) fun e w' => e = .returned v ∧ Below (farW w U).heap.size (farW w U) w') : Calls P f args (farW w U) fun e w'' => e = .returned v ∧ ∃ U', w'' = farW w U' :=
  h.mono fun _ w' ⟨he, hb⟩ => ⟨he, w', (farW_eq (bel_trans (farW_bel w U) hb)).symm⟩
end
end Go.Proofs.Ythopjpjloeaamaa
