/-
  Small facts that the walks use: bytes of strings, sums of bytes, ends of calls: of no program.
  The cells of a string's bytes: of no program.
  The type byte's row of the table.
  An owned row behind a call: of no program.
  A slice of texts: what came in, and what the call made.
  Rows of texts, cut and grown: of no program.
-/
import Derived.WalkKit
import Derived.WalkSpells
import Derived.WalkLawsBesides
import Derived.Laws.BytesArg
import Derived.Laws.BitsAllLaws
import Derived.Lib.AppendStr
import Derived.Lib.UnsafeStr
import Derived.Test.YthopjpjloeaamaaProg
import Derived.KernelRfl
import Derived.Test.YthopjpjloeaamaaGA
import Derived.Lib.Builder
namespace Go.Proofs.Ythopjpjloeaamaa
set_option maxRecDepth 100000
open Go.RowKit

theorem ba_size (l : List UInt8) : (⟨l.toArray⟩ : ByteArray).size = l.length := by simp [ByteArray.size]
theorem ba_get (l : List UInt8) (i : Nat) (h : i < (⟨l.toArray⟩ : ByteArray).size) : (⟨l.toArray⟩ : ByteArray)[i]'h = l[i]'(by rw [← ba_size]; exact h) := rfl
theorem ba_extract (l : List UInt8) (a b : Nat) : (⟨l.toArray⟩ : ByteArray).extract a b = ⟨((l.drop a).take (b - a)).toArray⟩ := by
  apply ByteArray.ext
  simp [List.extract_toArray, List.extract]
theorem ba_append (l m : List UInt8) : (⟨l.toArray⟩ : ByteArray) ++ (⟨m.toArray⟩ : ByteArray) = ⟨(l ++ m).toArray⟩ := by
  apply ByteArray.ext
  simp
theorem wrap_byte (b : UInt8) : wrap64 (b.toNat : Int) = b.toNat := by
  have := b.toNat_lt
  unfold wrap64; omega
theorem wrap_u64_byte (b : UInt8) : IntKind.u64.wrap (b.toNat : Int) = b.toNat := by
  have := b.toNat_lt
  rw [IntKind.wrap_u64]; omega
theorem take_drop_end (l : List UInt8) (n : Nat) : (l.drop n).take (l.length - n) = l.drop n := List.take_of_length_le (by simp)
theorem bel_trans {w a b : World} (h : Below w.heap.size w a) (k : Below a.heap.size a b) : Below w.heap.size w b := h.trans (k.mono h.size)
theorem ba_of (s : ByteArray) : s = ⟨s.data.toList.toArray⟩ := by cases s; simp
theorem ret_str {a b : ByteArray} (h : a = b) : Ending.returned (.string a) = .returned (.string b) := by rw [h]
theorem ret3 {a a' b b' c c' : Value} (h1 : a = a') (h2 : b = b') (h3 : c = c') : Ending.returned (.tuple #[a, b, c]) = .returned (.tuple #[a', b', c']) := by rw [h1, h2, h3]
theorem or_byte (x : Nat) (c : UInt8) (hx : x < 72057594037927936) : bits .or .u64 ((x : Int) * 256) (c.toNat : Int) = 256 * x + c.toNat := by
  have hc := c.toNat_lt
  have e : (x : Int) * 256 = ((x * 256 : Nat) : Int) := by omega
  rw [e, u64_or_nat _ _ (by omega) (by omega)]
  have h := Nat.shiftLeft_add_eq_or_of_lt (i := 8) (b := c.toNat) (by omega) x
  rw [Nat.shiftLeft_eq] at h
  rw [show (2 : Nat) ^ 8 = 256 from rfl] at h
  rw [← h]; omega
theorem i64_or_nat' (a b : Nat) (ha : a < 4294967296) (hb : b < 4294967296) : bits .or .i64 (a : Int) (b : Int) = ((a ||| b : Nat) : Int) := by
  have hx : a ||| b < 2 ^ 32 := Nat.or_lt_two_pow (by omega) (by omega)
  show IntKind.i64.wrap ((BitVec.ofInt 64 (a : Int) ||| BitVec.ofInt 64 (b : Int)).toNat : Int) = _
  rw [BitVec.toNat_or, ofInt_u64 a (by omega), ofInt_u64 b (by omega), IntKind.wrap_i64]
  omega
theorem or_byte_i64 (x c : UInt8) : bits .or .i64 ((x.toNat : Int) * 256) (c.toNat : Int) = 256 * x.toNat + c.toNat := by
  have hc := c.toNat_lt
  have hx := x.toNat_lt
  have e : (x.toNat : Int) * 256 = ((x.toNat * 256 : Nat) : Int) := by omega
  rw [e, i64_or_nat' _ _ (by omega) (by omega)]
  have h := Nat.shiftLeft_add_eq_or_of_lt (i := 8) (b := c.toNat) (by omega) x.toNat
  rw [Nat.shiftLeft_eq] at h
  rw [show (2 : Nat) ^ 8 = 256 from rfl] at h
  rw [← h]; omega
end Go.Proofs.Ythopjpjloeaamaa
namespace Go.Proofs.Ythopjpjloeaamaa
set_option maxRecDepth 100000
open Go.RowKit
theorem strCells_list (l : List UInt8) : Lib.strCells ⟨l.toArray⟩ = Lib.byteCells l := by
  simp [Lib.strCells, Lib.byteCells]
theorem byteCells_append (a b : List UInt8) : Lib.byteCells a ++ Lib.byteCells b = Lib.byteCells (a ++ b) := by
  simp [Lib.byteCells]
end Go.Proofs.Ythopjpjloeaamaa
namespace Go.Proofs.Ythopjpjloeaamaa
set_option maxRecDepth 100000
open Go.RowKit
theorem byte_info : (Try.prog.info? 5).map (fun i => (i.zero, i.size, i.bytes)) = some (some (.int .u8 0), 1, 1) := by kernel_rfl
end Go.Proofs.Ythopjpjloeaamaa
namespace Go.Proofs.Ythopjpjloeaamaa
set_option maxRecDepth 100000
open Go.RowKit
theorem owns_below {B e k n : Nat} {v : Value} {xs : List Value} {w w' : World} (h : w.ownsRow B e k v n xs) (hb : Below w.heap.size w w') : w'.ownsRow B e k v n xs := by
  obtain ⟨h1, h2⟩ := h
  refine ⟨h1, ?_⟩
  rcases h2 with h2 | ⟨g, cap, cur, hv, hbg, hg, r⟩
  · exact .inl h2
  · have hlt : g < w.heap.size := by
      rcases Nat.lt_or_ge g w.heap.size with h' | h'
      · exact h'
      · simp [Array.getElem?_eq_none h'] at hg
    exact .inr ⟨g, cap, cur, hv, hbg, (hb.block g hlt).trans hg, r⟩
end Go.Proofs.Ythopjpjloeaamaa
namespace Go.Proofs.Ythopjpjloeaamaa
set_option maxRecDepth 100000
open Go.RowKit
/-- A slice of n texts that came in: each of its cells holds the text. -/
def IsStrs (w : World) (a : Option Addr) (n : Nat) (ss : List (List UInt8)) : Prop :=
  ss.length = n ∧ (∀ s ∈ ss, s.length ≤ 140737488351232) ∧ n ≤ 140737488351232 ∧
  (n = 0 ∨ ∃ b off, a = some ⟨b, off, none⟩ ∧ b < w.heap.size ∧ ∀ i (h : i < ss.length), w.cell? ⟨b, off + i, none⟩ = some (.string ⟨ss[i].toArray⟩))
theorem IsStrs.below {w w' : World} {a : Option Addr} {n : Nat} {ss : List (List UInt8)} (h : IsStrs w a n ss) (hb : Below w.heap.size w w') : IsStrs w' a n ss := by
  obtain ⟨h1, h2, h3, h4⟩ := h
  refine ⟨h1, h2, h3, ?_⟩
  rcases h4 with h4 | ⟨b, off, ha, hlt, hc⟩
  · exact .inl h4
  · refine .inr ⟨b, off, ha, Nat.lt_of_lt_of_le hlt hb.size, fun i hi => ?_⟩
    rw [hb.cell (p := ⟨b, off + i, none⟩) hlt]
    exact hc i hi
theorem IsStrs.at {w : World} {a : Option Addr} {n : Nat} {ss : List (List UInt8)} (h : IsStrs w a n ss) (h0 : 0 < n) : ∃ b off, a = some ⟨b, off, none⟩ ∧ b < w.heap.size ∧ Hid (∀ i (h : i < ss.length), w.cell? ⟨b, off + i, none⟩ = some (.string ⟨ss[i].toArray⟩)) := by
  rcases h.2.2.2 with h1 | ⟨b, off, ha, hlt, hc⟩
  · omega
  · exact ⟨b, off, ha, hlt, hc⟩
theorem str_info : (Try.prog.info? 9).map (fun i => (i.zero, i.size, i.bytes)) = some (some (.string ByteArray.empty), 1, 16) := by kernel_rfl
/-- The cells of a row of texts. -/
def strV (l : List (List UInt8)) : List Value := l.map fun t => .string ⟨t.toArray⟩
theorem strV_snoc (l : List (List UInt8)) (t : List UInt8) : strV (l ++ [t]) = strV l ++ [.string ⟨t.toArray⟩] := by simp [strV]
theorem strV_length (l : List (List UInt8)) : (strV l).length = l.length := by simp [strV]
/-- What is owned reads as a slice of texts. -/
theorem strs_own {w : World} {B : Nat} {v : Value} {n : Nat} {l : List (List UInt8)} (h : w.ownsRow B 9 1 v n (strV l)) (hn : n ≤ 65535) (hl : ∀ t ∈ l, t.length ≤ 65535) : ∃ a cap, v = .slice a n cap ∧ IsStrs w a n l := by
  obtain ⟨h1, h2⟩ := h
  rw [strV_length] at h1
  rcases h2 with ⟨rfl, rfl⟩ | ⟨g, cap, cur, rfl, hbg, hg, hnc, hcm, hcs, htake⟩
  · exact ⟨none, 0, rfl, by omega, fun s hs => by have := hl s hs; omega, by omega, .inl rfl⟩
  · refine ⟨some ⟨g, 0, none⟩, cap, rfl, by omega, fun s hs => by have := hl s hs; omega, by omega, .inr ⟨g, 0, rfl, ?_, ?_⟩⟩
    · rcases Nat.lt_or_ge g w.heap.size with h' | h'
      · exact h'
      · simp [Array.getElem?_eq_none h'] at hg
    · intro i hi
      rw [Lib.cell_of_heap hg, Nat.zero_add]
      have e : cur.toList[i]? = (strV l)[i]? := by
        rw [← htake, List.getElem?_take_of_lt (by omega)]
      rw [← Array.getElem?_toList, e]
      simp [strV, hi]
end Go.Proofs.Ythopjpjloeaamaa
namespace Go.Proofs.Ythopjpjloeaamaa
set_option maxRecDepth 100000
open Go.RowKit
set_option linter.unusedVariables false
/-- A slice of n texts: each of its cells holds the text; none is greater than this world holds. -/
def IsTxt (w : World) (v : Value) (ss : List (List UInt8)) : Prop :=
  ∃ a n cap, v = .slice a n cap ∧ ss.length = n ∧ n ≤ cap ∧ cap ≤ 9223372036854775807 ∧ n ≤ 140737488351232 ∧ (∀ s ∈ ss, s.length ≤ 1125899906842624) ∧
  (n = 0 ∨ ∃ b off, a = some ⟨b, off, none⟩ ∧ b < w.heap.size ∧ ∀ i (h : i < ss.length), w.cell? ⟨b, off + i, none⟩ = some (.string ⟨ss[i].toArray⟩))
theorem IsTxt.below {w w' : World} {v : Value} {ss : List (List UInt8)} (h : IsTxt w v ss) (hb : Below w.heap.size w w') : IsTxt w' v ss := by
  obtain ⟨a, n, cap, hv, h1, h2, h3, h4, h5, h6⟩ := h
  refine ⟨a, n, cap, hv, h1, h2, h3, h4, h5, ?_⟩
  rcases h6 with h6 | ⟨b, off, ha, hlt, hc⟩
  · exact .inl h6
  · refine .inr ⟨b, off, ha, Nat.lt_of_lt_of_le hlt hb.size, fun i hi => ?_⟩
    rw [hb.cell (p := ⟨b, off + i, none⟩) hlt]
    exact hc i hi
/-- Not empty: where it lies. -/
theorem IsTxt.at {w : World} {v : Value} {ss : List (List UInt8)} (h : IsTxt w v ss) (h0 : 0 < ss.length) : ∃ b off cap, v = .slice (some ⟨b, off, none⟩) ss.length cap ∧ b < w.heap.size ∧ ss.length ≤ cap ∧ cap ≤ 9223372036854775807 ∧ ss.length ≤ 140737488351232 ∧ Hid (∀ i (h : i < ss.length), w.cell? ⟨b, off + i, none⟩ = some (.string ⟨ss[i].toArray⟩)) := by
  obtain ⟨a, n, cap, rfl, rfl, h2, h3, h4, h5, h6⟩ := h
  rcases h6 with h6 | ⟨b, off, rfl, hlt, hc⟩
  · omega
  · exact ⟨b, off, cap, rfl, hlt, h2, h3, h4, hc⟩
theorem IsTxt.len {w : World} {v : Value} {ss : List (List UInt8)} (h : IsTxt w v ss) : ∃ a cap, v = .slice a ss.length cap ∧ ss.length ≤ cap ∧ cap ≤ 9223372036854775807 ∧ ss.length ≤ 140737488351232 := by
  obtain ⟨a, n, cap, rfl, rfl, h2, h3, h4, h5, h6⟩ := h
  exact ⟨a, cap, rfl, h2, h3, h4⟩
theorem IsTxt.bound {w : World} {v : Value} {ss : List (List UInt8)} (h : IsTxt w v ss) : ∀ s ∈ ss, s.length ≤ 1125899906842624 := by
  obtain ⟨a, n, cap, rfl, rfl, h2, h3, h4, h5, h6⟩ := h
  exact h5
theorem IsTxt.take {w : World} {b off cap : Nat} {ss : List (List UInt8)} (h : IsTxt w (.slice (some ⟨b, off, none⟩) ss.length cap) ss) (k : Nat) (hk : k ≤ ss.length) (h0 : 0 < ss.length) : IsTxt w (.slice (some ⟨b, off, none⟩) k cap) (ss.take k) := by
  obtain ⟨a, n, c, hv, h1, h2, h3, h4, h5, h6⟩ := h
  obtain ⟨rfl, rfl, rfl⟩ : a = some ⟨b, off, none⟩ ∧ n = ss.length ∧ c = cap := by simpa [eq_comm] using hv
  refine ⟨_, _, _, rfl, by simp; omega, by omega, h3, by omega, fun s hs => h5 s (List.mem_of_mem_take hs), ?_⟩
  rcases h6 with h6 | ⟨b', off', ha, hlt, hc⟩
  · omega
  · obtain ⟨rfl, rfl⟩ : b = b' ∧ off = off' := by simpa using ha
    refine .inr ⟨b, off, rfl, hlt, fun i hi => ?_⟩
    rw [hc i (by simp at hi; omega), List.getElem_take]
theorem IsTxt.drop {w : World} {b off cap : Nat} {ss : List (List UInt8)} (h : IsTxt w (.slice (some ⟨b, off, none⟩) ss.length cap) ss) (k : Nat) (hk : k ≤ ss.length) (h0 : 0 < ss.length) : IsTxt w (.slice (some ⟨b, off + k, none⟩) (ss.length - k) (cap - k)) (ss.drop k) := by
  obtain ⟨a, n, c, hv, h1, h2, h3, h4, h5, h6⟩ := h
  obtain ⟨rfl, rfl, rfl⟩ : a = some ⟨b, off, none⟩ ∧ n = ss.length ∧ c = cap := by simpa [eq_comm] using hv
  refine ⟨_, _, _, rfl, by simp, by omega, by omega, by omega, fun s hs => h5 s (List.mem_of_mem_drop hs), ?_⟩
  rcases h6 with h6 | ⟨b', off', ha, hlt, hc⟩
  · omega
  · obtain ⟨rfl, rfl⟩ : b = b' ∧ off = off' := by simpa using ha
    refine .inr ⟨b, off + k, rfl, hlt, fun i hi => ?_⟩
    rw [Nat.add_assoc, hc (k + i) (by simp at hi; omega), List.getElem_drop]
theorem IsTxt.nil (w : World) : IsTxt w (.slice none 0 0) [] := ⟨none, 0, 0, rfl, rfl, by omega, by omega, by omega, (fun s hs => by cases hs), .inl rfl⟩
/-- What is owned reads as a slice of texts. -/
theorem IsTxt.own {w : World} {B : Nat} {v : Value} {n : Nat} {l : List (List UInt8)} (h : w.ownsRow B 9 1 v n (strV l)) (hn : n ≤ 140737488351232) (hl : ∀ t ∈ l, t.length ≤ 1125899906842624) : IsTxt w v l := by
  obtain ⟨h1, h2⟩ := h
  rw [strV_length] at h1
  rcases h2 with ⟨rfl, rfl⟩ | ⟨g, cap, cur, rfl, hbg, hg, hnc, hcm, hcs, htake⟩
  · obtain rfl : l = [] := List.length_eq_zero_iff.1 (by omega)
    exact IsTxt.nil w
  · refine ⟨_, _, _, rfl, by omega, hnc, by unfold maxLen at hcm; omega, hn, hl, .inr ⟨g, 0, rfl, (Array.getElem?_eq_some_iff.1 hg).1, ?_⟩⟩
    intro i hi
    rw [Lib.cell_of_heap hg, Nat.zero_add]
    have e : cur.toList[i]? = (strV l)[i]? := by
      rw [← htake, List.getElem?_take_of_lt (by omega)]
    rw [← Array.getElem?_toList, e]
    simp [strV, hi]
theorem IsTxt.some_at {w : World} {v : Value} {ss : List (List UInt8)} (h : IsTxt w v ss) : ∃ a cap, v = .slice a ss.length cap ∧ ss.length ≤ cap ∧ cap ≤ 9223372036854775807 ∧ ss.length ≤ 140737488351232 ∧ Hid (∀ k (h : k < ss.length), ∃ b off, a = some ⟨b, off, none⟩ ∧ b < w.heap.size ∧ w.cell? ⟨b, off + k, none⟩ = some (.string ⟨ss[k].toArray⟩)) := by
  obtain ⟨a, n, cap, rfl, rfl, h2, h3, h4, h5, h6⟩ := h
  refine ⟨a, cap, rfl, h2, h3, h4, ?_⟩
  intro k hk
  rcases h6 with h6 | ⟨b, off, rfl, hlt, hc⟩
  · omega
  · exact ⟨b, off, rfl, hlt, hc k hk⟩
end Go.Proofs.Ythopjpjloeaamaa
