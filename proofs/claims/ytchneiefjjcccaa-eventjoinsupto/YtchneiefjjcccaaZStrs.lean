/-
  A slice of texts: what came in, and what the call made.
-/
import Derived.Test.YtchneiefjjcccaaProg
import Derived.Test.YtchneiefjjcccaaGA
import Derived.Test.YtchneiefjjcccaaZBase
import Derived.Lib.Builder
namespace Go.Proofs.Ytchneiefjjcccaa
set_option maxRecDepth 100000
open Go.RowKit
/-- A slice of n texts that came in: each of its cells holds the text. -/
def IsStrs (w : World) (a : Option Addr) (n : Nat) (ss : List (List UInt8)) : Prop :=
  ss.length = n ∧ (∀ s ∈ ss, s.length ≤ 140737488351232) ∧ n ≤ 140737488351232 ∧
  (n = 0 ∨ ∃ b off, a = some ⟨b, off, none⟩ ∧ b < w.heap.size ∧ ∀ i (h : i < ss.length), w.cell? ⟨b, off + i, none⟩ = some (.string ⟨ss[i].toArray⟩))
theorem IsStrs.below {w w' : World} {a : Option Addr} {n : Nat} {ss : List (List UInt8)} (h : IsStrs w a n ss) (hb : Below w.heap.size w w') : IsStrs w' a n ss := by
  obtain ⟨h1, h2, h3, h4⟩ := h
  refine ⟨h1, h2, h3, ?_⟩
  rcases h4 with h4 | ⟨b, off, ha, hlt, hc⟩
  · exact .inl h4
  · refine .inr ⟨b, off, ha, Nat.lt_of_lt_of_le hlt hb.size, fun i hi => ?_⟩
    rw [hb.cell (p := ⟨b, off + i, none⟩) hlt]
    exact hc i hi
theorem IsStrs.at {w : World} {a : Option Addr} {n : Nat} {ss : List (List UInt8)} (h : IsStrs w a n ss) (h0 : 0 < n) : ∃ b off, a = some ⟨b, off, none⟩ ∧ b < w.heap.size ∧ Hid (∀ i (h : i < ss.length), w.cell? ⟨b, off + i, none⟩ = some (.string ⟨ss[i].toArray⟩)) := by
  rcases h.2.2.2 with h1 | ⟨b, off, ha, hlt, hc⟩
  · omega
  · exact ⟨b, off, ha, hlt, hc⟩
theorem str_info : (Try.prog.info? 9).map (fun i => (i.zero, i.size, i.bytes)) = some (some (.string ByteArray.empty), 1, 16) := by kernel_rfl
/-- The cells of a row of texts. -/
def strV (l : List (List UInt8)) : List Value := l.map fun t => .string ⟨t.toArray⟩
theorem strV_snoc (l : List (List UInt8)) (t : List UInt8) : strV (l ++ [t]) = strV l ++ [.string ⟨t.toArray⟩] := by simp [strV]
theorem strV_length (l : List (List UInt8)) : (strV l).length = l.length := by simp [strV]
/-- What is owned reads as a slice of texts. -/
theorem strs_own {w : World} {B : Nat} {v : Value} {n : Nat} {l : List (List UInt8)} (h : w.ownsRow B 9 1 v n (strV l)) (hn : n ≤ 65535) (hl : ∀ t ∈ l, t.length ≤ 65535) : ∃ a cap, v = .slice a n cap ∧ IsStrs w a n l := by
  obtain ⟨h1, h2⟩ := h
  rw [strV_length] at h1
  rcases h2 with ⟨rfl, rfl⟩ | ⟨g, cap, cur, rfl, hbg, hg, hnc, hcm, hcs, htake⟩
  · exact ⟨none, 0, rfl, by omega, fun s hs => by have := hl s hs; omega, by omega, .inl rfl⟩
  · refine ⟨some ⟨g, 0, none⟩, cap, rfl, by omega, fun s hs => by have := hl s hs; omega, by omega, .inr ⟨g, 0, rfl, ?_, ?_⟩⟩
    · rcases Nat.lt_or_ge g w.heap.size with h' | h'
      · exact h'
      · simp [Array.getElem?_eq_none h'] at hg
    · intro i hi
      rw [Lib.cell_of_heap hg, Nat.zero_add]
      have e : cur.toList[i]? = (strV l)[i]? := by
        rw [← htake, List.getElem?_take_of_lt (by omega)]
      rw [← Array.getElem?_toList, e]
      simp [strV, hi]
end Go.Proofs.Ytchneiefjjcccaa
