/-
  Histories as bytes and back, in lists; what a function answers that makes texts or events: of no program.
-/
import Derived.Test.YthopjpjloeaamaaZEvs
namespace Go.Proofs.Ythopjpjloeaamaa
set_option maxRecDepth 100000
open Go.RowKit
set_option linter.unusedVariables false
abbrev allMay (h : List Ev) : Prop := ∀ x ∈ h, mayE x
def leavesE (h : List Ev) : List (List UInt8) × Nat := if 256 < h.length then ([], 4) else if allMay h then (h.map bytE, 0) else ([], 1)
abbrev allTake (l : List (List UInt8)) : Prop := ∀ s ∈ l, (takeE s).isSome = true
def backE (l : List (List UInt8)) : List Ev × Nat := if 256 < l.length then ([], 4) else if allTake l then (l.filterMap takeE, 0) else ([], 3)
theorem leavesE_big (h : List Ev) (hl : 256 < h.length) : leavesE h = ([], 4) := by unfold leavesE; rw [if_pos hl]
theorem leavesE_bad (h : List Ev) (hl : ¬ 256 < h.length) (k : Nat) (hk : k < h.length) (hm : ¬ mayE h[k]) : leavesE h = ([], 1) := by
  unfold leavesE
  rw [if_neg hl, if_neg (fun ha => hm (ha _ (List.getElem_mem hk)))]
theorem leavesE_ok (h : List Ev) (hl : ¬ 256 < h.length) (ha : allMay h) : leavesE h = (h.map bytE, 0) := by
  unfold leavesE
  rw [if_neg hl, if_pos ha]
theorem backE_big (l : List (List UInt8)) (hl : 256 < l.length) : backE l = ([], 4) := by unfold backE; rw [if_pos hl]
theorem backE_bad (l : List (List UInt8)) (hl : ¬ 256 < l.length) (k : Nat) (hk : k < l.length) (hm : takeE l[k] = none) : backE l = ([], 3) := by
  unfold backE
  rw [if_neg hl, if_neg (fun ha => by have := ha _ (List.getElem_mem hk); rw [hm] at this; cases this)]
theorem backE_ok (l : List (List UInt8)) (hl : ¬ 256 < l.length) (ha : allTake l) : backE l = (l.filterMap takeE, 0) := by
  unfold backE
  rw [if_neg hl, if_pos ha]
theorem allMay_next (h : List Ev) (k : Nat) (hk : k < h.length) (ha : allMay (h.take k)) (hm : mayE h[k]) : allMay (h.take (k + 1)) := by
  intro x hx
  rw [List.take_succ_eq_append_getElem hk] at hx
  rcases List.mem_append.1 hx with hx | hx
  · exact ha x hx
  · simp at hx; subst hx; exact hm
theorem allTake_next (l : List (List UInt8)) (k : Nat) (hk : k < l.length) (ha : allTake (l.take k)) (x : Ev) (hm : takeE l[k] = some x) : allTake (l.take (k + 1)) ∧ (l.take (k + 1)).filterMap takeE = (l.take k).filterMap takeE ++ [x] := by
  rw [List.take_succ_eq_append_getElem hk]
  refine ⟨fun s hs => ?_, by rw [List.filterMap_append, List.filterMap_cons_some hm, List.filterMap_nil]⟩
  rcases List.mem_append.1 hs with hs | hs
  · exact ha s hs
  · simp at hs; subst hs; rw [hm]; rfl
theorem allTake_len (l : List (List UInt8)) (ha : allTake l) : (l.filterMap takeE).length = l.length := by
  induction l with
  | nil => rfl
  | cons a r ih =>
    have h1 := ha a (by simp)
    obtain ⟨x, hx⟩ := Option.isSome_iff_exists.1 h1
    rw [List.filterMap_cons_some hx, List.length_cons, ih (fun s hs => ha s (by simp [hs])), List.length_cons]
/-- Texts made, and a code. -/
def TxRes (w : World) (r : List (List UInt8) × Nat) (e : Ending) (w' : World) : Prop :=
  ∃ v, e = .returned (.tuple #[v, .int .i64 (r.2 : Int)]) ∧ Below w.heap.size w w' ∧ w'.ownsRow w.heap.size 9 1 v r.1.length (strV r.1)
/-- Events made, and a code. -/
def EvRes (t : TypeId) (w : World) (r : List Ev × Nat) (e : Ending) (w' : World) : Prop :=
  ∃ v, e = .returned (.tuple #[v, .int .i64 (r.2 : Int)]) ∧ Below w.heap.size w w' ∧ w'.ownsRow w.heap.size t 4 v r.1.length (recV evV r.1)
end Go.Proofs.Ythopjpjloeaamaa
