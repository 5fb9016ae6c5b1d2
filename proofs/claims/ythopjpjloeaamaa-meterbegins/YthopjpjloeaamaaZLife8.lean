/-
  Lives and numbers in rows; what is found, as a value: of no program but for the types.
-/
import Derived.Test.YthopjpjloeaamaaProg
import Derived.Test.YthopjpjloeaamaaZHistM
import Derived.Test.YthopjpjloeaamaaZEvs7
import Derived.Test.YthopjpjloeaamaaZEvs8
namespace Go.Proofs.Ythopjpjloeaamaa
set_option maxRecDepth 100000
open Go.RowKit
set_option linter.unusedVariables false
abbrev Lf := Int × Nat × Nat × Bool
def lifV (x : Lf) : List Value := [.int .i64 x.1, .int .i64 (x.2.1 : Int), .int .i64 (x.2.2.1 : Int), .bool x.2.2.2]
theorem lifV_len (x : Lf) : (lifV x).length = 4 := rfl
theorem lifV_one (x : Lf) : ∀ u ∈ lifV x, u.oneCell' = true := by
  intro u hu
  simp [lifV] at hu
  rcases hu with rfl | rfl | rfl | rfl <;> rfl
abbrev IsLfs (w : World) (v : Value) (L : List Lf) : Prop := IsRec 4 lifV w v L
abbrev lifA (x : Lf) : Value := .agg #[.int .i64 x.1, .int .i64 (x.2.1 : Int), .int .i64 (x.2.2.1 : Int), .bool x.2.2.2]
def findP (h : List Ev) (t : Int) : Lf × Bool := match findL h t with
  | none => ((0, 0, 0, false), false)
  | some x => (x, true)
/-- Numbers in a row. -/
def intV (n : Int) : List Value := [.int .i64 n]
theorem intV_len (n : Int) : (intV n).length = 1 := rfl
abbrev IsInts (w : World) (v : Value) (L : List Int) : Prop := IsRec 1 intV w v L
theorem int_info : (Try.prog.info? 3).map (fun i => (i.zero, i.size, i.bytes)) = some (some (.int .i64 0), 1, 8) := by kernel_rfl
/-- A row of lives, made; a row of numbers, made. -/
def LfRow (t : TypeId) (w : World) (L : List Lf) (e : Ending) (w' : World) : Prop := ∃ v, e = .returned v ∧ Below w.heap.size w w' ∧ w'.ownsRow w.heap.size t 4 v L.length (recV lifV L)
def InRow (w : World) (L : List Int) (e : Ending) (w' : World) : Prop := ∃ v, e = .returned v ∧ Below w.heap.size w w' ∧ w'.ownsRow w.heap.size 3 1 v L.length (recV intV L)
theorem find_has (h : List Ev) (i : Nat) (hi : i < h.length) : ∃ x, findL h (ev h i).2.1 = some x := by
  unfold findL
  cases hf : fstL h (ev h i).2.1 h.length with
  | none => exact absurd rfl ((fstL_none _ _ _).1 hf i hi)
  | some f =>
    simp only
    cases endL h (ev h i).2.1 h.length with
    | none => exact ⟨_, rfl⟩
    | some e => exact ⟨_, rfl⟩
theorem findP_of {h : List Ev} {t : Int} {x : Lf} (hx : findL h t = some x) : findP h t = (x, true) := by unfold findP; rw [hx]
theorem last_upto (h : List Ev) (t : Int) (key : List UInt8) (i : Nat) (hi : i ≤ h.length) : lastL h t key (i : Int) = lastN h t key i := by
  unfold lastL
  rw [Int.toNat_natCast, Nat.min_eq_right hi]
theorem last_end (h : List Ev) (t : Int) (key : List UInt8) (before : Int) (k : Nat) (hk : k ≤ h.length) (hb : k = 0 ∨ (k : Int) ≤ before) (he : k = h.length ∨ before ≤ (k : Int)) : lastL h t key before = lastN h t key k := by
  unfold lastL
  have : min h.length before.toNat = k := by rw [Nat.min_def]; split <;> omega
  rw [this]
end Go.Proofs.Ythopjpjloeaamaa
