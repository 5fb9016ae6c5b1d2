/-
  Small facts that the walks use: bytes of strings, sums of bytes, ends of calls: of no program.
  An owned row behind a call: of no program.
  A slice of texts: what came in, and what the call made.
  Rows of texts, cut and grown: of no program.
  Rows of records (several cells an element), read, cut, opened and grown: of no program.
  Rows of events (kind, transaction, key, value: four cells an element): of no program.
  Histories as bytes and back, in lists; what a function answers that makes texts or events: of no program.
-/
import Derived.WalkKit
import Derived.WalkSpells
import Derived.WalkLawsBesides
import Derived.Laws.BytesArg
import Derived.Laws.BitsAllLaws
import Derived.Test.YtpfpkpaodlmlaaaProg
import Derived.Test.YtpfpkpaodlmlaaaGA
import Derived.Lib.Builder
import Derived.Deep.Slices
import Derived.Deep.Fields
import Derived.ChangeArms
namespace Go.Proofs.Ytpfpkpaodlmlaaa
set_option maxRecDepth 100000
open Go.RowKit

theorem ba_size (l : List UInt8) : (⟨l.toArray⟩ : ByteArray).size = l.length := by simp [ByteArray.size]
theorem ba_get (l : List UInt8) (i : Nat) (h : i < (⟨l.toArray⟩ : ByteArray).size) : (⟨l.toArray⟩ : ByteArray)[i]'h = l[i]'(by rw [← ba_size]; exact h) := rfl
theorem ba_extract (l : List UInt8) (a b : Nat) : (⟨l.toArray⟩ : ByteArray).extract a b = ⟨((l.drop a).take (b - a)).toArray⟩ := by
  apply ByteArray.ext
  simp [List.extract_toArray, List.extract]
theorem ba_append (l m : List UInt8) : (⟨l.toArray⟩ : ByteArray) ++ (⟨m.toArray⟩ : ByteArray) = ⟨(l ++ m).toArray⟩ := by
  apply ByteArray.ext
  simp
theorem wrap_byte (b : UInt8) : wrap64 (b.toNat : Int) = b.toNat := by
  have := b.toNat_lt
  unfold wrap64; omega
theorem wrap_u64_byte (b : UInt8) : IntKind.u64.wrap (b.toNat : Int) = b.toNat := by
  have := b.toNat_lt
  rw [IntKind.wrap_u64]; omega
theorem take_drop_end (l : List UInt8) (n : Nat) : (l.drop n).take (l.length - n) = l.drop n := List.take_of_length_le (by simp)
theorem bel_trans {w a b : World} (h : Below w.heap.size w a) (k : Below a.heap.size a b) : Below w.heap.size w b := h.trans (k.mono h.size)
theorem ba_of (s : ByteArray) : s = ⟨s.data.toList.toArray⟩ := by cases s; simp
theorem ret_str {a b : ByteArray} (h : a = b) : Ending.returned (.string a) = .returned (.string b) := by rw [h]
theorem ret3 {a a' b b' c c' : Value} (h1 : a = a') (h2 : b = b') (h3 : c = c') : Ending.returned (.tuple #[a, b, c]) = .returned (.tuple #[a', b', c']) := by rw [h1, h2, h3]
theorem or_byte (x : Nat) (c : UInt8) (hx : x < 72057594037927936) : bits .or .u64 ((x : Int) * 256) (c.toNat : Int) = 256 * x + c.toNat := by
  have hc := c.toNat_lt
  have e : (x : Int) * 256 = ((x * 256 : Nat) : Int) := by omega
  rw [e, u64_or_nat _ _ (by omega) (by omega)]
  have h := Nat.shiftLeft_add_eq_or_of_lt (i := 8) (b := c.toNat) (by omega) x
  rw [Nat.shiftLeft_eq] at h
  rw [show (2 : Nat) ^ 8 = 256 from rfl] at h
  rw [← h]; omega
theorem i64_or_nat' (a b : Nat) (ha : a < 4294967296) (hb : b < 4294967296) : bits .or .i64 (a : Int) (b : Int) = ((a ||| b : Nat) : Int) := by
  have hx : a ||| b < 2 ^ 32 := Nat.or_lt_two_pow (by omega) (by omega)
  show IntKind.i64.wrap ((BitVec.ofInt 64 (a : Int) ||| BitVec.ofInt 64 (b : Int)).toNat : Int) = _
  rw [BitVec.toNat_or, ofInt_u64 a (by omega), ofInt_u64 b (by omega), IntKind.wrap_i64]
  omega
theorem or_byte_i64 (x c : UInt8) : bits .or .i64 ((x.toNat : Int) * 256) (c.toNat : Int) = 256 * x.toNat + c.toNat := by
  have hc := c.toNat_lt
  have hx := x.toNat_lt
  have e : (x.toNat : Int) * 256 = ((x.toNat * 256 : Nat) : Int) := by omega
  rw [e, i64_or_nat' _ _ (by omega) (by omega)]
  have h := Nat.shiftLeft_add_eq_or_of_lt (i := 8) (b := c.toNat) (by omega) x.toNat
  rw [Nat.shiftLeft_eq] at h
  rw [show (2 : Nat) ^ 8 = 256 from rfl] at h
  rw [← h]; omega
end Go.Proofs.Ytpfpkpaodlmlaaa
namespace Go.Proofs.Ytpfpkpaodlmlaaa
set_option maxRecDepth 100000
open Go.RowKit
theorem owns_below {B e k n : Nat} {v : Value} {xs : List Value} {w w' : World} (h : w.ownsRow B e k v n xs) (hb : Below w.heap.size w w') : w'.ownsRow B e k v n xs := by
  obtain ⟨h1, h2⟩ := h
  refine ⟨h1, ?_⟩
  rcases h2 with h2 | ⟨g, cap, cur, hv, hbg, hg, r⟩
  · exact .inl h2
  · have hlt : g < w.heap.size := by
      rcases Nat.lt_or_ge g w.heap.size with h' | h'
      · exact h'
      · simp [Array.getElem?_eq_none h'] at hg
    exact .inr ⟨g, cap, cur, hv, hbg, (hb.block g hlt).trans hg, r⟩
end Go.Proofs.Ytpfpkpaodlmlaaa
namespace Go.Proofs.Ytpfpkpaodlmlaaa
set_option maxRecDepth 100000
open Go.RowKit
/-- A slice of n texts that came in: each of its cells holds the text. -/
def IsStrs (w : World) (a : Option Addr) (n : Nat) (ss : List (List UInt8)) : Prop :=
  ss.length = n ∧ (∀ s ∈ ss, s.length ≤ 140737488351232) ∧ n ≤ 140737488351232 ∧
  (n = 0 ∨ ∃ b off, a = some ⟨b, off, none⟩ ∧ b < w.heap.size ∧ ∀ i (h : i < ss.length), w.cell? ⟨b, off + i, none⟩ = some (.string ⟨ss[i].toArray⟩))
theorem IsStrs.below {w w' : World} {a : Option Addr} {n : Nat} {ss : List (List UInt8)} (h : IsStrs w a n ss) (hb : Below w.heap.size w w') : IsStrs w' a n ss := by
  obtain ⟨h1, h2, h3, h4⟩ := h
  refine ⟨h1, h2, h3, ?_⟩
  rcases h4 with h4 | ⟨b, off, ha, hlt, hc⟩
  · exact .inl h4
  · refine .inr ⟨b, off, ha, Nat.lt_of_lt_of_le hlt hb.size, fun i hi => ?_⟩
    rw [hb.cell (p := ⟨b, off + i, none⟩) hlt]
    exact hc i hi
theorem IsStrs.at {w : World} {a : Option Addr} {n : Nat} {ss : List (List UInt8)} (h : IsStrs w a n ss) (h0 : 0 < n) : ∃ b off, a = some ⟨b, off, none⟩ ∧ b < w.heap.size ∧ Hid (∀ i (h : i < ss.length), w.cell? ⟨b, off + i, none⟩ = some (.string ⟨ss[i].toArray⟩)) := by
  rcases h.2.2.2 with h1 | ⟨b, off, ha, hlt, hc⟩
  · omega
  · exact ⟨b, off, ha, hlt, hc⟩
theorem str_info : (Try.prog.info? 9).map (fun i => (i.zero, i.size, i.bytes)) = some (some (.string ByteArray.empty), 1, 16) := by kernel_rfl
/-- The cells of a row of texts. -/
def strV (l : List (List UInt8)) : List Value := l.map fun t => .string ⟨t.toArray⟩
theorem strV_snoc (l : List (List UInt8)) (t : List UInt8) : strV (l ++ [t]) = strV l ++ [.string ⟨t.toArray⟩] := by simp [strV]
theorem strV_length (l : List (List UInt8)) : (strV l).length = l.length := by simp [strV]
/-- What is owned reads as a slice of texts. -/
theorem strs_own {w : World} {B : Nat} {v : Value} {n : Nat} {l : List (List UInt8)} (h : w.ownsRow B 9 1 v n (strV l)) (hn : n ≤ 65535) (hl : ∀ t ∈ l, t.length ≤ 65535) : ∃ a cap, v = .slice a n cap ∧ IsStrs w a n l := by
  obtain ⟨h1, h2⟩ := h
  rw [strV_length] at h1
  rcases h2 with ⟨rfl, rfl⟩ | ⟨g, cap, cur, rfl, hbg, hg, hnc, hcm, hcs, htake⟩
  · exact ⟨none, 0, rfl, by omega, fun s hs => by have := hl s hs; omega, by omega, .inl rfl⟩
  · refine ⟨some ⟨g, 0, none⟩, cap, rfl, by omega, fun s hs => by have := hl s hs; omega, by omega, .inr ⟨g, 0, rfl, ?_, ?_⟩⟩
    · rcases Nat.lt_or_ge g w.heap.size with h' | h'
      · exact h'
      · simp [Array.getElem?_eq_none h'] at hg
    · intro i hi
      rw [Lib.cell_of_heap hg, Nat.zero_add]
      have e : cur.toList[i]? = (strV l)[i]? := by
        rw [← htake, List.getElem?_take_of_lt (by omega)]
      rw [← Array.getElem?_toList, e]
      simp [strV, hi]
end Go.Proofs.Ytpfpkpaodlmlaaa
namespace Go.Proofs.Ytpfpkpaodlmlaaa
set_option maxRecDepth 100000
open Go.RowKit
set_option linter.unusedVariables false
/-- A slice of n texts: each of its cells holds the text; none is greater than this world holds. -/
def IsTxt (w : World) (v : Value) (ss : List (List UInt8)) : Prop :=
  ∃ a n cap, v = .slice a n cap ∧ ss.length = n ∧ n ≤ cap ∧ cap ≤ 9223372036854775807 ∧ n ≤ 140737488351232 ∧ (∀ s ∈ ss, s.length ≤ 1125899906842624) ∧
  (n = 0 ∨ ∃ b off, a = some ⟨b, off, none⟩ ∧ b < w.heap.size ∧ ∀ i (h : i < ss.length), w.cell? ⟨b, off + i, none⟩ = some (.string ⟨ss[i].toArray⟩))
theorem IsTxt.below {w w' : World} {v : Value} {ss : List (List UInt8)} (h : IsTxt w v ss) (hb : Below w.heap.size w w') : IsTxt w' v ss := by
  obtain ⟨a, n, cap, hv, h1, h2, h3, h4, h5, h6⟩ := h
  refine ⟨a, n, cap, hv, h1, h2, h3, h4, h5, ?_⟩
  rcases h6 with h6 | ⟨b, off, ha, hlt, hc⟩
  · exact .inl h6
  · refine .inr ⟨b, off, ha, Nat.lt_of_lt_of_le hlt hb.size, fun i hi => ?_⟩
    rw [hb.cell (p := ⟨b, off + i, none⟩) hlt]
    exact hc i hi
/-- Not empty: where it lies. -/
theorem IsTxt.at {w : World} {v : Value} {ss : List (List UInt8)} (h : IsTxt w v ss) (h0 : 0 < ss.length) : ∃ b off cap, v = .slice (some ⟨b, off, none⟩) ss.length cap ∧ b < w.heap.size ∧ ss.length ≤ cap ∧ cap ≤ 9223372036854775807 ∧ ss.length ≤ 140737488351232 ∧ Hid (∀ i (h : i < ss.length), w.cell? ⟨b, off + i, none⟩ = some (.string ⟨ss[i].toArray⟩)) := by
  obtain ⟨a, n, cap, rfl, rfl, h2, h3, h4, h5, h6⟩ := h
  rcases h6 with h6 | ⟨b, off, rfl, hlt, hc⟩
  · omega
  · exact ⟨b, off, cap, rfl, hlt, h2, h3, h4, hc⟩
theorem IsTxt.len {w : World} {v : Value} {ss : List (List UInt8)} (h : IsTxt w v ss) : ∃ a cap, v = .slice a ss.length cap ∧ ss.length ≤ cap ∧ cap ≤ 9223372036854775807 ∧ ss.length ≤ 140737488351232 := by
  obtain ⟨a, n, cap, rfl, rfl, h2, h3, h4, h5, h6⟩ := h
  exact ⟨a, cap, rfl, h2, h3, h4⟩
theorem IsTxt.bound {w : World} {v : Value} {ss : List (List UInt8)} (h : IsTxt w v ss) : ∀ s ∈ ss, s.length ≤ 1125899906842624 := by
  obtain ⟨a, n, cap, rfl, rfl, h2, h3, h4, h5, h6⟩ := h
  exact h5
theorem IsTxt.take {w : World} {b off cap : Nat} {ss : List (List UInt8)} (h : IsTxt w (.slice (some ⟨b, off, none⟩) ss.length cap) ss) (k : Nat) (hk : k ≤ ss.length) (h0 : 0 < ss.length) : IsTxt w (.slice (some ⟨b, off, none⟩) k cap) (ss.take k) := by
  obtain ⟨a, n, c, hv, h1, h2, h3, h4, h5, h6⟩ := h
  obtain ⟨rfl, rfl, rfl⟩ : a = some ⟨b, off, none⟩ ∧ n = ss.length ∧ c = cap := by simpa [eq_comm] using hv
  refine ⟨_, _, _, rfl, by simp; omega, by omega, h3, by omega, fun s hs => h5 s (List.mem_of_mem_take hs), ?_⟩
  rcases h6 with h6 | ⟨b', off', ha, hlt, hc⟩
  · omega
  · obtain ⟨rfl, rfl⟩ : b = b' ∧ off = off' := by simpa using ha
    refine .inr ⟨b, off, rfl, hlt, fun i hi => ?_⟩
    rw [hc i (by simp at hi; omega), List.getElem_take]
theorem IsTxt.drop {w : World} {b off cap : Nat} {ss : List (List UInt8)} (h : IsTxt w (.slice (some ⟨b, off, none⟩) ss.length cap) ss) (k : Nat) (hk : k ≤ ss.length) (h0 : 0 < ss.length) : IsTxt w (.slice (some ⟨b, off + k, none⟩) (ss.length - k) (cap - k)) (ss.drop k) := by
  obtain ⟨a, n, c, hv, h1, h2, h3, h4, h5, h6⟩ := h
  obtain ⟨rfl, rfl, rfl⟩ : a = some ⟨b, off, none⟩ ∧ n = ss.length ∧ c = cap := by simpa [eq_comm] using hv
  refine ⟨_, _, _, rfl, by simp, by omega, by omega, by omega, fun s hs => h5 s (List.mem_of_mem_drop hs), ?_⟩
  rcases h6 with h6 | ⟨b', off', ha, hlt, hc⟩
  · omega
  · obtain ⟨rfl, rfl⟩ : b = b' ∧ off = off' := by simpa using ha
    refine .inr ⟨b, off + k, rfl, hlt, fun i hi => ?_⟩
    rw [Nat.add_assoc, hc (k + i) (by simp at hi; omega), List.getElem_drop]
theorem IsTxt.nil (w : World) : IsTxt w (.slice none 0 0) [] := ⟨none, 0, 0, rfl, rfl, by omega, by omega, by omega, (fun s hs => by cases hs), .inl rfl⟩
/-- What is owned reads as a slice of texts. -/
theorem IsTxt.own {w : World} {B : Nat} {v : Value} {n : Nat} {l : List (List UInt8)} (h : w.ownsRow B 9 1 v n (strV l)) (hn : n ≤ 140737488351232) (hl : ∀ t ∈ l, t.length ≤ 1125899906842624) : IsTxt w v l := by
  obtain ⟨h1, h2⟩ := h
  rw [strV_length] at h1
  rcases h2 with ⟨rfl, rfl⟩ | ⟨g, cap, cur, rfl, hbg, hg, hnc, hcm, hcs, htake⟩
  · obtain rfl : l = [] := List.length_eq_zero_iff.1 (by omega)
    exact IsTxt.nil w
  · refine ⟨_, _, _, rfl, by omega, hnc, by unfold maxLen at hcm; omega, hn, hl, .inr ⟨g, 0, rfl, (Array.getElem?_eq_some_iff.1 hg).1, ?_⟩⟩
    intro i hi
    rw [Lib.cell_of_heap hg, Nat.zero_add]
    have e : cur.toList[i]? = (strV l)[i]? := by
      rw [← htake, List.getElem?_take_of_lt (by omega)]
    rw [← Array.getElem?_toList, e]
    simp [strV, hi]
theorem IsTxt.some_at {w : World} {v : Value} {ss : List (List UInt8)} (h : IsTxt w v ss) : ∃ a cap, v = .slice a ss.length cap ∧ ss.length ≤ cap ∧ cap ≤ 9223372036854775807 ∧ ss.length ≤ 140737488351232 ∧ Hid (∀ k (h : k < ss.length), ∃ b off, a = some ⟨b, off, none⟩ ∧ b < w.heap.size ∧ w.cell? ⟨b, off + k, none⟩ = some (.string ⟨ss[k].toArray⟩)) := by
  obtain ⟨a, n, cap, rfl, rfl, h2, h3, h4, h5, h6⟩ := h
  refine ⟨a, cap, rfl, h2, h3, h4, ?_⟩
  intro k hk
  rcases h6 with h6 | ⟨b, off, rfl, hlt, hc⟩
  · omega
  · exact ⟨b, off, rfl, hlt, hc k hk⟩
end Go.Proofs.Ytpfpkpaodlmlaaa
namespace Go.Proofs.Ytpfpkpaodlmlaaa
set_option maxRecDepth 100000
open Go.RowKit Go.ChangeShapes Go.WideShapes
set_option linter.unusedVariables false
section
variable {α : Type}
theorem take_next_eq {l m : List α} {k : Nat} (h1 : k < l.length) (h2 : k < m.length) (h : l.take k = m.take k) (he : l[k] = m[k]) : l.take (k + 1) = m.take (k + 1) := by
  rw [List.take_succ_eq_append_getElem h1, List.take_succ_eq_append_getElem h2, h, he]
theorem ne_by_at {l m : List α} {k : Nat} (h1 : k < l.length) (h2 : k < m.length) (he : ¬ l[k] = m[k]) : ¬ l = m := fun h => by subst h; exact he rfl
/-- A slice of records: each element's cells are enc's. -/
def IsRec (sz : Nat) (enc : α → List Value) (w : World) (v : Value) (L : List α) : Prop :=
  ∃ a n cap, v = .slice a n cap ∧ L.length = n ∧ n ≤ cap ∧ cap ≤ 9223372036854775807 ∧ n ≤ 140737488351232 ∧
  (n = 0 ∨ ∃ b off, a = some ⟨b, off, none⟩ ∧ b < w.heap.size ∧ ∀ i (h : i < L.length) j u, (enc L[i])[j]? = some u → w.cell? ⟨b, off + i * sz + j, none⟩ = some u)
theorem IsRec.below {sz : Nat} {enc : α → List Value} {w w' : World} {v : Value} {L : List α} (h : IsRec sz enc w v L) (hb : Below w.heap.size w w') : IsRec sz enc w' v L := by
  obtain ⟨a, n, cap, hv, h1, h2, h3, h4, h6⟩ := h
  refine ⟨a, n, cap, hv, h1, h2, h3, h4, ?_⟩
  rcases h6 with h6 | ⟨b, off, ha, hlt, hc⟩
  · exact .inl h6
  · refine .inr ⟨b, off, ha, Nat.lt_of_lt_of_le hlt hb.size, fun i hi j u hu => ?_⟩
    rw [hb.cell (p := ⟨b, off + i * sz + j, none⟩) hlt]
    exact hc i hi j u hu
theorem IsRec.some_at {sz : Nat} {enc : α → List Value} {w : World} {v : Value} {L : List α} (h : IsRec sz enc w v L) : ∃ a cap, v = .slice a L.length cap ∧ L.length ≤ cap ∧ cap ≤ 9223372036854775807 ∧ L.length ≤ 140737488351232 ∧ Hid (∀ k (h : k < L.length), ∃ b off, a = some ⟨b, off, none⟩ ∧ b < w.heap.size ∧ ∀ j u, (enc L[k])[j]? = some u → w.cell? ⟨b, off + k * sz + j, none⟩ = some u) := by
  obtain ⟨a, n, cap, rfl, rfl, h2, h3, h4, h6⟩ := h
  refine ⟨a, cap, rfl, h2, h3, h4, ?_⟩
  intro k hk
  rcases h6 with h6 | ⟨b, off, rfl, hlt, hc⟩
  · omega
  · exact ⟨b, off, rfl, hlt, hc k hk⟩
theorem IsRec.nil (sz : Nat) (enc : α → List Value) (w : World) : IsRec sz enc w (.slice none 0 0) [] := ⟨none, 0, 0, rfl, rfl, by omega, by omega, by omega, .inl rfl⟩
theorem IsRec.few {sz : Nat} {enc : α → List Value} {w : World} {v : Value} {L : List α} (h : IsRec sz enc w v L) : L.length ≤ 140737488351232 := by
  obtain ⟨a, n, cap, rfl, rfl, h2, h3, h4, h6⟩ := h
  exact h4
theorem IsRec.take {sz : Nat} {enc : α → List Value} {w : World} {a : Option Addr} {cap : Nat} {L : List α} (h : IsRec sz enc w (.slice a L.length cap) L) (k : Nat) (hk : k ≤ L.length) : IsRec sz enc w (.slice a k cap) (L.take k) := by
  obtain ⟨a', n, c, hv, h1, h2, h3, h4, h6⟩ := h
  obtain ⟨rfl, rfl, rfl⟩ : a' = a ∧ n = L.length ∧ c = cap := by simpa [eq_comm] using hv
  refine ⟨_, _, _, rfl, by simp; omega, by omega, h3, by omega, ?_⟩
  rcases h6 with h6 | ⟨b, off, ha, hlt, hc⟩
  · exact .inl (by omega)
  · refine .inr ⟨b, off, ha, hlt, fun i hi j u hu => ?_⟩
    simp only [List.length_take] at hi
    rw [List.getElem_take] at hu
    exact hc i (by omega) j u hu
/-- The cells of a row of records. -/
def recV (enc : α → List Value) (L : List α) : List Value := L.flatMap enc
theorem recV_nil (enc : α → List Value) : recV enc [] = [] := rfl
theorem recV_snoc (enc : α → List Value) (L : List α) (x : α) : recV enc (L ++ [x]) = recV enc L ++ enc x := by simp [recV]
theorem recV_append (enc : α → List Value) (L M : List α) : recV enc (L ++ M) = recV enc L ++ recV enc M := by simp [recV]
theorem recV_length {sz : Nat} {enc : α → List Value} (hz : ∀ x, (enc x).length = sz) : ∀ L, (recV enc L).length = L.length * sz
  | [] => by simp [recV]
  | x :: L => by
    have := recV_length hz L
    unfold recV at this ⊢
    rw [List.flatMap_cons, List.length_append, hz, this, List.length_cons, Nat.succ_mul]
    omega
theorem recV_get {sz : Nat} {enc : α → List Value} (hz : ∀ x, (enc x).length = sz) : ∀ (L : List α) (i : Nat) (h : i < L.length) (j : Nat) (hj : j < sz), (recV enc L)[i * sz + j]? = (enc L[i])[j]?
  | [], i, h, j, hj => by simp at h
  | x :: L, 0, h, j, hj => by
    unfold recV
    rw [List.flatMap_cons, Nat.zero_mul, Nat.zero_add, List.getElem?_append_left (by rw [hz]; exact hj)]
    rfl
  | x :: L, i + 1, h, j, hj => by
    have := recV_get hz L i (by simp at h; omega) j hj
    unfold recV at this ⊢
    rw [List.flatMap_cons, List.getElem?_append_right (by rw [hz, Nat.succ_mul]; omega), hz, show (i + 1) * sz + j - sz = i * sz + j by rw [Nat.succ_mul]; omega, this]
    simp
theorem recV_one {enc : α → List Value} (h1 : ∀ x, ∀ u ∈ enc x, u.oneCell' = true) (L : List α) : ∀ u ∈ recV enc L, u.oneCell' = true := by
  intro u hu
  obtain ⟨x, _, hx⟩ := List.mem_flatMap.1 hu
  exact h1 x u hx
/-- What is owned reads as a slice of records. -/
theorem IsRec.own {sz : Nat} {enc : α → List Value} (hz : ∀ x, (enc x).length = sz) (hs : 0 < sz) {w : World} {B e : Nat} {v : Value} {n : Nat} {L : List α} (h : w.ownsRow B e sz v n (recV enc L)) (hn : n ≤ 140737488351232) : IsRec sz enc w v L := by
  obtain ⟨h1, h2⟩ := h
  rw [recV_length hz] at h1
  have hln : L.length = n := Nat.eq_of_mul_eq_mul_right hs h1
  rcases h2 with ⟨rfl, rfl⟩ | ⟨g, cap, cur, rfl, hbg, hg, hnc, hcm, hcs, htake⟩
  · obtain rfl : L = [] := List.length_eq_zero_iff.1 hln
    exact IsRec.nil sz enc w
  · refine ⟨_, _, _, rfl, hln, hnc, by unfold maxLen at hcm; omega, hn, .inr ⟨g, 0, rfl, (Array.getElem?_eq_some_iff.1 hg).1, ?_⟩⟩
    intro i hi j u hu
    have hj : j < sz := by rw [← hz L[i]]; exact (List.getElem?_eq_some_iff.1 hu).1
    rw [Lib.cell_of_heap hg, Nat.zero_add]
    have hlt : i * sz + j < n * sz := by
      have : (i + 1) * sz ≤ n * sz := Nat.mul_le_mul_right _ (by omega)
      rw [Nat.succ_mul] at this
      omega
    have e : cur.toList[i * sz + j]? = (recV enc L)[i * sz + j]? := by rw [← htake, List.getElem?_take_of_lt hlt]
    rw [← Array.getElem?_toList, e, recV_get hz L i hi j hj]
    exact hu
theorem list_of (R : Nat → α → Prop) : ∀ n, (∀ i, i < n → ∃ x, R i x) → ∃ L : List α, L.length = n ∧ ∀ i (h : i < L.length), R i L[i]
  | 0, _ => ⟨[], rfl, fun i h => by simp at h⟩
  | n + 1, h => by
    obtain ⟨L, hl, hL⟩ := list_of R n (fun i hi => h i (by omega))
    obtain ⟨x, hx⟩ := h n (by omega)
    refine ⟨L ++ [x], by simp [hl], fun i hi => ?_⟩
    by_cases hin : i < L.length
    · rw [List.getElem_append_left hin]; exact hL i hin
    · simp at hi
      obtain rfl : i = n := by omega
      rw [List.getElem_append_right (by omega)]
      simpa using hx
/-- A slice of records among what is read, opened: each element by its own law. -/
theorem rec_cells {sz : Nat} {rec : α → List Value} (good : α → Prop) {H : Type} {enc : TypeId × Value → H} {P : Program} {W : World} {t e : TypeId} {m : Nat} {c : Value} {d : DataW H} {p : List MemPlace} (by_ : Nat)
    (ht : P.underlying t = some (.slice e)) (hC : P.cellsOf e = sz) (hs : 0 < sz) (hB : P.bytesOf e = by_) (hb8 : 8 ≤ by_)
    (hel : ∀ n cs' d' p', cs'.length = sz → DataW.trod enc P W 0 (fun _ => true) true n e cs' = some (d', p') → (DataW.weights P e d').all (· ≤ reachBytes) = true → ∃ x, cs' = rec x ∧ good x)
    (hf : DataW.trod enc P W 0 (fun _ => true) true m t [c] = some (d, p)) (hw : (DataW.weights P t d).all (· ≤ reachBytes) = true) : ∃ L : List α, IsRec sz rec W c L ∧ (∀ x ∈ L, good x) ∧ L.length * by_ ≤ reachBytes := by
  rcases Go.Deep.open_slice ht hf with ⟨hcs, _⟩ | ⟨a, len, cap, mm, n, D, Pl, hcs, _, hl, hm, hmm, hx, hall⟩
  · simp at hcs
    subst hcs
    exact ⟨[], IsRec.nil sz rec W, by simp, by simp⟩
  · simp at hcs
    subst hcs
    simp only [if_true] at hmm
    have hd := congrArg Prod.fst hx
    simp only at hd
    subst hd
    simp only [DataW.weights, ht, List.all_cons, Bool.and_eq_true, decide_eq_true_eq, List.all_append] at hw
    obtain ⟨hw1, hw2, hw3⟩ := hw
    rw [hB] at hw1
    simp only [List.length_map, List.length_range] at hw1
    have hmem : ∀ (ds : List (DataW H)), (DataW.weightsAll P e ds).all (· ≤ reachBytes) = true → ∀ d ∈ ds, (DataW.weights P e d).all (· ≤ reachBytes) = true := by
      intro ds
      induction ds with
      | nil => intro _ d hd; cases hd
      | cons a r ih =>
        intro h d hd
        rw [DataW.weightsAll, List.all_append, Bool.and_eq_true] at h
        rcases List.mem_cons.1 hd with rfl | hd
        · exact h.1
        · exact ih h.2 d hd
    have hlen : len * by_ ≤ reachBytes := Nat.le_trans (Nat.mul_le_mul_right _ (by omega)) hw1
    obtain ⟨L, hLl, hL⟩ := list_of (fun i x => W.cells? 0 (a.add (i * P.cellsOf e)) (P.cellsOf e) = some (rec x) ∧ good x) len (fun i hi => by
      obtain ⟨cs', h1, h2⟩ := hall i (by omega)
      obtain ⟨_, hcl, _⟩ := World.cells?_some h1
      have g := hmem _ hw2 (D i) (List.mem_map.2 ⟨i, List.mem_range.2 hi, rfl⟩)
      obtain ⟨x, hx1, hx2⟩ := hel n cs' _ _ (by rw [hcl, hC]) h2 g
      exact ⟨x, by rw [h1, hx1], hx2⟩)
    refine ⟨L, ?_, ?_, by rw [hLl]; exact hlen⟩
    · refine ⟨_, _, _, rfl, hLl, hl, by unfold maxLen at hm; omega, ?_, ?_⟩
      · have h8 : len * 8 ≤ len * by_ := Nat.mul_le_mul_left _ hb8
        unfold reachBytes at hlen
        omega
      · by_cases h0 : len = 0
        · exact .inl h0
        · right
          have h00 := (hL 0 (by omega)).1
          obtain ⟨b, off, spot⟩ := a
          have hcell : ∀ i (h : i < L.length) j u, (rec L[i])[j]? = some u → W.cell? ((⟨b, off, spot⟩ : Addr).add (i * sz + j)) = some u := by
            intro i hi j u hu
            have h1 := (hL i hi).1
            obtain ⟨_, hcl, hcc⟩ := World.cells?_some h1
            have hj : j < P.cellsOf e := by rw [← hcl]; exact (List.getElem?_eq_some_iff.1 hu).1
            have := hcc j hj
            rw [Go.Deep.add_add, hC] at this
            rw [this, hu]
          have hsz : 0 < (rec L[0]).length := by
            obtain ⟨_, hcl, _⟩ := World.cells?_some h00
            omega
          have hc0 := hcell 0 (by omega) 0 _ (List.getElem?_eq_getElem hsz)
          have hspot : spot = none := by simpa [Addr.add] using World.cell?_spot hc0
          subst hspot
          have hlt : b < W.heap.size := by
            rcases Nat.lt_or_ge b W.heap.size with h' | h'
            · exact h'
            · simp [World.cell?, Addr.add, Array.getElem?_eq_none h'] at hc0
          refine ⟨b, off, rfl, hlt, fun i hi j u hu => ?_⟩
          have := hcell i hi j u hu
          rw [show (⟨b, off, none⟩ : Addr).add (i * sz + j) = ⟨b, off + i * sz + j, none⟩ by simp [Addr.add, Nat.add_assoc]] at this
          exact this
    · intro x hx
      obtain ⟨i, hi, rfl⟩ := List.getElem_of_mem hx
      exact (hL i hi).2
end
end Go.Proofs.Ytpfpkpaodlmlaaa
namespace Go.Proofs.Ytpfpkpaodlmlaaa
set_option maxRecDepth 100000
open Go.RowKit Go.ChangeShapes Go.WideShapes
set_option linter.unusedVariables false
/-- An event's cells. -/
def evV (x : Ev) : List Value := [.int .i64 x.1, .int .i64 x.2.1, .string ⟨x.2.2.1.toArray⟩, .string ⟨x.2.2.2.toArray⟩]
theorem evV_len (x : Ev) : (evV x).length = 4 := rfl
theorem evV_one (x : Ev) : ∀ u ∈ evV x, u.oneCell' = true := by
  intro u hu
  simp [evV] at hu
  rcases hu with rfl | rfl | rfl | rfl <;> rfl
/-- Numbers that an int may be, texts that may lie in memory. -/
def goodE (x : Ev) : Prop := (-9223372036854775808 ≤ x.1 ∧ x.1 ≤ 9223372036854775807) ∧ (-9223372036854775808 ≤ x.2.1 ∧ x.2.1 ≤ 9223372036854775807) ∧ x.2.2.1.length ≤ 140737488351232 ∧ x.2.2.2.length ≤ 140737488351232
abbrev IsEvs (w : World) (v : Value) (L : List Ev) : Prop := IsRec 4 evV w v L
theorem IsEvs.at {w : World} {b off : Nat} {L : List Ev} {k : Nat} (hk : k < L.length) (h : ∀ j u, (evV L[k])[j]? = some u → w.cell? ⟨b, off + k * 4 + j, none⟩ = some u) :
    w.cell? ⟨b, off + k * 4, none⟩ = some (.int .i64 L[k].1) ∧ w.cell? ⟨b, off + k * 4 + 1, none⟩ = some (.int .i64 L[k].2.1) ∧ w.cell? ⟨b, off + k * 4 + 2, none⟩ = some (.string ⟨L[k].2.2.1.toArray⟩) ∧ w.cell? ⟨b, off + k * 4 + 3, none⟩ = some (.string ⟨L[k].2.2.2.toArray⟩) :=
  ⟨h 0 _ rfl, h 1 _ rfl, h 2 _ rfl, h 3 _ rfl⟩
theorem mayE_range {k t : Int} {a b : List UInt8} (h : mayE (k, t, a, b)) : 1 ≤ k ∧ k ≤ 5 ∧ 1 ≤ t ∧ t ≤ 32 := h.1
theorem mayE_key {k t : Int} {a b : List UInt8} (h : k = 2 ∨ k = 3) : mayE (k, t, a, b) ↔ (1 ≤ k ∧ k ≤ 5 ∧ 1 ≤ t ∧ t ≤ 32) ∧ (1 ≤ a.length ∧ a.length ≤ 32 ∧ b.length ≤ 32 ∧ (k = 2 ∨ 1 ≤ b.length)) := by
  unfold mayE
  simp only
  rw [if_pos (show keyedE k from h)]
theorem mayE_unkey {k t : Int} {a b : List UInt8} (h : ¬ (k = 2 ∨ k = 3)) : mayE (k, t, a, b) ↔ (1 ≤ k ∧ k ≤ 5 ∧ 1 ≤ t ∧ t ≤ 32) ∧ (a = [] ∧ b = []) := by
  unfold mayE
  simp only
  rw [if_neg (show ¬ keyedE k from h)]
/-- A cell of a box made ahead of what left all that lay. -/
theorem box_cell {w w1 : World} {c : Array Value} {t : TypeId} (b : Below (w.alloc (.cells c t)).heap.size (w.alloc (.cells c t)) w1) (j : Nat) (u : Value) (h : c[j]? = some u) : w1.cell? ⟨w.heap.size, j, none⟩ = some u :=
  (b.cell (p := ⟨w.heap.size, j, none⟩) (by simp)).trans (by rw [World.cell?_alloc_new]; exact h)
theorem box_cell_al {w w1 : World} {c : Array Value} {t : TypeId} (b : Below (w.alloc (.cells c t)).heap.size (w.alloc (.cells c t)) w1) (j : Nat) (u : Value) (h : c[j]? = some u) (o : Obj) : (w1.alloc o).cell? ⟨w.heap.size, j, none⟩ = some u :=
  box_cell (b.alloc b.size o) j u h
theorem i64_wf {n : Int} (h : (Lit.int .i64 n).wf = true) : -9223372036854775808 ≤ n ∧ n ≤ 9223372036854775807 := by
  simp [Lit.wf, IntKind.min, IntKind.max, IntKind.signed, IntKind.bits] at h
  omega
section
variable {H : Type} {enc : TypeId × Value → H} {P : Program} {W : World}
theorem ev_elem {e : TypeId} {f0 f1 f2 f3 : Field} (hs : P.underlying e = some (.struct #[f0, f1, f2, f3])) (hone : Go.Deep.oneCellFields P #[f0, f1, f2, f3] = true)
    (u0 : P.underlying f0.type = some (.int .i64)) (u1 : P.underlying f1.type = some (.int .i64)) (u2 : P.underlying f2.type = some .string) (u3 : P.underlying f3.type = some .string)
    (n : Nat) (cs' : List Value) (d' : DataW H) (p' : List MemPlace) (hl : cs'.length = 4) (h : DataW.trod enc P W 0 (fun _ => true) true n e cs' = some (d', p')) (hw : (DataW.weights P e d').all (· ≤ reachBytes) = true) : ∃ x, cs' = evV x ∧ goodE x := by
  obtain ⟨xs, k, _, hx, hcl, hlen, hel⟩ := DataW.trod_struct hs h
  have hlen' : xs.length = 4 := hlen
  match xs, hlen', cs', hl with
  | [y0, y1, y2, y3], _, [c0, c1, c2, c3], _ =>
    obtain ⟨o0, k0⟩ := Go.Deep.hone_of hone 0 f0 rfl
    obtain ⟨o1, k1⟩ := Go.Deep.hone_of hone 1 f1 rfl
    obtain ⟨o2, k2⟩ := Go.Deep.hone_of hone 2 f2 rfl
    obtain ⟨o3, k3⟩ := Go.Deep.hone_of hone 3 f3 rfl
    have g0 := hel 0 f0 rfl
    have g1 := hel 1 f1 rfl
    have g2 := hel 2 f2 rfl
    have g3 := hel 3 f3 rfl
    simp [o0, o1, o2, o3, k0, k1, k2, k3] at g0 g1 g2 g3
    obtain ⟨n0, e0, rfl, w0⟩ := DataW.trod_int u0 g0
    obtain ⟨n1, e1, rfl, w1⟩ := DataW.trod_int u1 g1
    obtain ⟨s2, e2, rfl, _⟩ := DataW.trod_string u2 g2
    obtain ⟨s3, e3, rfl, _⟩ := DataW.trod_string u3 g3
    have hd := congrArg Prod.fst hx
    simp at hd
    subst hd
    simp at e0 e1 e2 e3
    subst e0 e1 e2 e3
    simp only [DataW.weights, DataW.weightsEach, hs, List.map_cons, List.map_nil, List.append_nil, List.nil_append, List.all_append, List.all_cons, List.all_nil, Bool.and_true, Bool.and_eq_true] at hw
    refine ⟨(n0, n1, s2.data.toList, s3.data.toList), rfl, i64_wf w0, i64_wf w1, ?_, ?_⟩
    · exact of_decide_eq_true hw.1
    · exact of_decide_eq_true hw.2
end
end Go.Proofs.Ytpfpkpaodlmlaaa
namespace Go.Proofs.Ytpfpkpaodlmlaaa
set_option maxRecDepth 100000
open Go.RowKit
set_option linter.unusedVariables false
abbrev allMay (h : List Ev) : Prop := ∀ x ∈ h, mayE x
def leavesE (h : List Ev) : List (List UInt8) × Nat := if 256 < h.length then ([], 4) else if allMay h then (h.map bytE, 0) else ([], 1)
abbrev allTake (l : List (List UInt8)) : Prop := ∀ s ∈ l, (takeE s).isSome = true
def backE (l : List (List UInt8)) : List Ev × Nat := if 256 < l.length then ([], 4) else if allTake l then (l.filterMap takeE, 0) else ([], 3)
theorem leavesE_big (h : List Ev) (hl : 256 < h.length) : leavesE h = ([], 4) := by unfold leavesE; rw [if_pos hl]
theorem leavesE_bad (h : List Ev) (hl : ¬ 256 < h.length) (k : Nat) (hk : k < h.length) (hm : ¬ mayE h[k]) : leavesE h = ([], 1) := by
  unfold leavesE
  rw [if_neg hl, if_neg (fun ha => hm (ha _ (List.getElem_mem hk)))]
theorem leavesE_ok (h : List Ev) (hl : ¬ 256 < h.length) (ha : allMay h) : leavesE h = (h.map bytE, 0) := by
  unfold leavesE
  rw [if_neg hl, if_pos ha]
theorem backE_big (l : List (List UInt8)) (hl : 256 < l.length) : backE l = ([], 4) := by unfold backE; rw [if_pos hl]
theorem backE_bad (l : List (List UInt8)) (hl : ¬ 256 < l.length) (k : Nat) (hk : k < l.length) (hm : takeE l[k] = none) : backE l = ([], 3) := by
  unfold backE
  rw [if_neg hl, if_neg (fun ha => by have := ha _ (List.getElem_mem hk); rw [hm] at this; cases this)]
theorem backE_ok (l : List (List UInt8)) (hl : ¬ 256 < l.length) (ha : allTake l) : backE l = (l.filterMap takeE, 0) := by
  unfold backE
  rw [if_neg hl, if_pos ha]
theorem allMay_next (h : List Ev) (k : Nat) (hk : k < h.length) (ha : allMay (h.take k)) (hm : mayE h[k]) : allMay (h.take (k + 1)) := by
  intro x hx
  rw [List.take_succ_eq_append_getElem hk] at hx
  rcases List.mem_append.1 hx with hx | hx
  · exact ha x hx
  · simp at hx; subst hx; exact hm
theorem allTake_next (l : List (List UInt8)) (k : Nat) (hk : k < l.length) (ha : allTake (l.take k)) (x : Ev) (hm : takeE l[k] = some x) : allTake (l.take (k + 1)) ∧ (l.take (k + 1)).filterMap takeE = (l.take k).filterMap takeE ++ [x] := by
  rw [List.take_succ_eq_append_getElem hk]
  refine ⟨fun s hs => ?_, by rw [List.filterMap_append, List.filterMap_cons_some hm, List.filterMap_nil]⟩
  rcases List.mem_append.1 hs with hs | hs
  · exact ha s hs
  · simp at hs; subst hs; rw [hm]; rfl
theorem allTake_len (l : List (List UInt8)) (ha : allTake l) : (l.filterMap takeE).length = l.length := by
  induction l with
  | nil => rfl
  | cons a r ih =>
    have h1 := ha a (by simp)
    obtain ⟨x, hx⟩ := Option.isSome_iff_exists.1 h1
    rw [List.filterMap_cons_some hx, List.length_cons, ih (fun s hs => ha s (by simp [hs])), List.length_cons]
/-- Texts made, and a code. -/
def TxRes (w : World) (r : List (List UInt8) × Nat) (e : Ending) (w' : World) : Prop :=
  ∃ v, e = .returned (.tuple #[v, .int .i64 (r.2 : Int)]) ∧ Below w.heap.size w w' ∧ w'.ownsRow w.heap.size 9 1 v r.1.length (strV r.1)
/-- Events made, and a code. -/
def EvRes (t : TypeId) (w : World) (r : List Ev × Nat) (e : Ending) (w' : World) : Prop :=
  ∃ v, e = .returned (.tuple #[v, .int .i64 (r.2 : Int)]) ∧ Below w.heap.size w w' ∧ w'.ownsRow w.heap.size t 4 v r.1.length (recV evV r.1)
end Go.Proofs.Ytpfpkpaodlmlaaa
