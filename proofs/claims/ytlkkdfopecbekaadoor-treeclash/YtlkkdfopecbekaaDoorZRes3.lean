/-
  What Climb, Clash and Differ leave, as values: of no program.
-/
import Derived.Test.YtlkkdfopecbekaaDoorZTreeI
import Derived.Test.YtlkkdfopecbekaaDoorGA
import Derived.Test.YtlkkdfopecbekaaDoorGB
namespace Go.Proofs.YtlkkdfopecbekaaDoor
set_option maxRecDepth 100000
open Go.RowKit
set_option linter.unusedVariables false
/-- What Climb leaves: the row, and the error. -/
def ClRes (w : World) (c : List (List UInt8) × Nat) (e : Ending) (w' : World) : Prop := ∃ r, e = .returned (.tuple #[r, .int .i64 (c.2 : Int)]) ∧ Below w.heap.size w w' ∧ w'.ownsRow w.heap.size 9 1 r c.1.length (strV c.1)
theorem rootI_len (n : Nat) (c : List UInt8) (hc : c.length ≤ 32) : (rootI n c).length ≤ 50 := by
  unfold rootI
  have := Lm.numL_length n
  have := Lm.cnt_le n
  rw [List.length_cons, List.length_append]; omega
/-- Two texts given away, or none, as three results. -/
def unV : Option (List UInt8 × List UInt8) → Value
  | some (x, y) => .tuple #[.string ⟨x.toArray⟩, .string ⟨y.toArray⟩, .bool true]
  | none => .tuple #[.string ⟨#[]⟩, .string ⟨#[]⟩, .bool false]
theorem climb_rows (sm : List UInt8 → List UInt8) (h32 : ∀ s, (sm s).length = 32) (n i : Int) (s : List UInt8) (p : List (List UInt8)) (h : (climbL sm n i s p).2 = 0) : (climbL sm n i s p).1.length ≤ 4097 ∧ 0 < (climbL sm n i s p).1.length ∧ ∀ t ∈ (climbL sm n i s p).1, t.length ≤ s.length + 65 := by
  obtain ⟨hA, hp, l, hl, hc⟩ := climb_ok sm n i s p h
  obtain ⟨f1, f2, f3⟩ := inL_facts sm h32 n.toNat n.toNat i.toNat s p l rfl (by omega) hp hl
  rw [hc]
  refine ⟨by rw [List.length_append]; simp only [List.length_cons, List.length_nil]; omega, by simp, fun t ht => ?_⟩
  rcases List.mem_append.1 ht with h | h
  · exact f3 t h
  · rw [List.mem_singleton] at h; rw [h]
    have := rootI_len n.toNat (sm (l.getLastD [])) (by rw [h32]; omega)
    omega
theorem unL_eq (sm : List UInt8 → List UInt8) (a : List UInt8) : unL sm a a = none := by unfold unL; rw [if_neg (fun h => h.1 rfl)]
theorem unL_ne (sm : List UInt8 → List UInt8) (a b : List UInt8) (h : sm a ≠ sm b) : unL sm a b = none := by unfold unL; rw [if_neg (fun h' => h h'.2)]
theorem IsTxt.some_at {w : World} {v : Value} {ss : List (List UInt8)} (h : IsTxt w v ss) : ∃ a cap, v = .slice a ss.length cap ∧ ss.length ≤ cap ∧ cap ≤ 9223372036854775807 ∧ ss.length ≤ 140737488351232 ∧ Hid (∀ k (h : k < ss.length), ∃ b off, a = some ⟨b, off, none⟩ ∧ b < w.heap.size ∧ w.cell? ⟨b, off + k, none⟩ = some (.string ⟨ss[k].toArray⟩)) := by
  obtain ⟨a, n, cap, rfl, rfl, h2, h3, h4, h5, h6⟩ := h
  refine ⟨a, cap, rfl, h2, h3, h4, ?_⟩
  intro k hk
  rcases h6 with h6 | ⟨b, off, rfl, hlt, hc⟩
  · omega
  · exact ⟨b, off, rfl, hlt, hc k hk⟩
end Go.Proofs.YtlkkdfopecbekaaDoor
