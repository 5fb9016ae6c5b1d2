/-
  Events as values, rows of them made; small facts of memory: of no program but for the event's type.
-/
import Derived.Test.YthopjpjloeaamaaProg
import Derived.Test.YthopjpjloeaamaaZEvent2
import Derived.Test.YthopjpjloeaamaaZBoxes
import Derived.OwnWalk
import Derived.Lib.BufferWrite
namespace Go.Proofs.Ythopjpjloeaamaa
set_option maxRecDepth 100000
open Go.RowKit
set_option linter.unusedVariables false
abbrev evW (x : Ev) : Value := .agg #[.int .i64 x.1, .int .i64 x.2.1, .string ⟨x.2.2.1.toArray⟩, .string ⟨x.2.2.2.toArray⟩]
theorem ne_nil7 (l : List UInt8) (h : l ≠ []) : l.isEmpty = false := by cases l with
  | nil => exact absurd rfl h
  | cons _ _ => rfl
theorem owns_keep7 {W : World} {B e k n g j : Nat} {v : Value} {xs : List Value} (h : W.ownsRow B e k v n xs) (u : Value) (hne : some g ≠ v.ownBlock) : (W.setCell ⟨g, j, none⟩ u).ownsRow B e k v n xs := h.kept (Lib.grownBy_setCell W g j u) (.inr (fun e => hne e.symm))
theorem cell_new7 {W : World} {c : Array Value} {t : TypeId} {b j : Nat} {u : Value} (hb : b = W.heap.size) (h : c[j]? = some u) : (W.alloc (.cells c t)).cell? ⟨b, j, none⟩ = some u := by
  subst hb
  rw [World.cell?_alloc_new]
  exact h
/-- A row of events, made. -/
def EvRow (t : TypeId) (w : World) (L : List Ev) (e : Ending) (w' : World) : Prop := ∃ v, e = .returned v ∧ Below w.heap.size w w' ∧ w'.ownsRow w.heap.size t 4 v L.length (recV evV L)
end Go.Proofs.Ythopjpjloeaamaa
