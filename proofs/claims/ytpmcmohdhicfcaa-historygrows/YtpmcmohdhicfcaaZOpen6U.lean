/-
  How many events a slice among the arguments has, by its bulk; whether it is nil.
-/
import Derived.Test.YtpmcmohdhicfcaaRows
import Derived.Test.YtpmcmohdhicfcaaZOpen6
namespace Go.Proofs.Ytpmcmohdhicfcaa
set_option maxRecDepth 100000
open Go.ChangeShapes Go.WideShapes Go.ChangeAt Go.RowKit
set_option linter.unusedVariables false
theorem bulk_pos {H : Type} (d : DataW H) : 1 ≤ Rows.uptoBulk d := by
  cases d with
  | lit l => cases l <;> simp [Rows.uptoBulk]
  | _ => simp [Rows.uptoBulk]
theorem bulk_all {H : Type} : ∀ (l : List (DataW H)), l.length ≤ Rows.uptoBulkAll l
  | [] => by simp [Rows.uptoBulkAll]
  | d :: r => by
    have h1 := bulk_pos d
    have h2 := bulk_all r
    rw [Rows.uptoBulkAll, List.length_cons]
    omega
theorem ev_bulk {H : Type} {enc : TypeId × Value → H} {W : World} {v : Value} {d : DataW H} {p : List MemPlace}
    (h : DataW.Trod enc Try.prog W 0 (fun _ => true) true 22 v d p) {L : List Ev} (hT : IsEvs W v L) : L.length ≤ Rows.uptoBulk d := by
  obtain ⟨fuel, hf⟩ := h
  obtain ⟨a, cap', rfl, _⟩ := hT.some_at
  have e : (Value.slice a L.length cap').cells.toList = [.slice a L.length cap'] := rfl
  rw [e] at hf
  rcases Go.Deep.open_slice Try.underlying22 hf with ⟨hcs, _⟩ | ⟨a', len, cap, mm, n, D, Pl, hcs, _, hl, hm, hmm, hx, hall⟩
  · simp at hcs; omega
  · simp at hcs
    have hd := congrArg Prod.fst hx
    simp only at hd
    subst hd
    have h1 := bulk_all ((List.range len).map D)
    rw [List.length_map, List.length_range] at h1
    rw [Rows.uptoBulk]
    omega
theorem ev_shape {H : Type} {enc : TypeId × Value → H} {W : World} {v : Value} {d : DataW H} {p : List MemPlace}
    (h : DataW.Trod enc Try.prog W 0 (fun _ => true) true 22 v d p) {L : List Ev} (hT : IsEvs W v L) : v = .slice none 0 0 ∨ ∃ ad n c, v = .slice (some ad) n c := by
  obtain ⟨fuel, hf⟩ := h
  obtain ⟨a, cap', rfl, _⟩ := hT.some_at
  have e : (Value.slice a L.length cap').cells.toList = [.slice a L.length cap'] := rfl
  rw [e] at hf
  rcases Go.Deep.open_slice Try.underlying22 hf with ⟨hcs, _⟩ | ⟨a', len, cap, mm, n, D, Pl, hcs, _⟩
  · left; simpa using hcs
  · right; simp only [List.cons.injEq] at hcs; exact ⟨_, _, _, hcs.1⟩
end Go.Proofs.Ytpmcmohdhicfcaa
