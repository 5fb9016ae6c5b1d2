/-
  What blake.Hex answers.
-/
import Derived.Test.YthdikknjabdfeaaDoorP2Bld
import Derived.Test.YthdikknjabdfeaaDoorWordsB
namespace Go.Proofs.YthdikknjabdfeaaDoor
open Go.RowKit
set_option linter.unusedVariables false
attribute [local go_sem] ba_size ba_get
def FIG : List UInt8 := [48, 49, 50, 51, 52, 53, 54, 55, 56, 57, 97, 98, 99, 100, 101, 102]
/-- Bytes in figures. -/
def hexL : List UInt8 → List UInt8
  | [] => []
  | b :: r => fig (b.toNat / 16) :: fig (b.toNat % 16) :: hexL r
theorem hexL_len (S : List UInt8) : (hexL S).length = 2 * S.length := by
  induction S with
  | nil => rfl
  | cons b r ih => simp [hexL, ih]; omega
theorem hexL_append (S T : List UInt8) : hexL (S ++ T) = hexL S ++ hexL T := by
  induction S with
  | nil => rfl
  | cons b r ih => simp [hexL, ih]
theorem hexL_take (S : List UInt8) (k : Nat) (h : k < S.length) : hexL (S.take k) ++ [fig (S[k].toNat / 16)] ++ [fig (S[k].toNat % 16)] = hexL (S.take (k + 1)) := by
  rw [List.take_add_one, hexL_append, List.getElem?_eq_getElem h]
  simp [hexL]
theorem fig_of (n : Nat) (h : n < FIG.length) : FIG[n] = fig n := by
  have hc : ∀ n, n < 16 → FIG[n]? = some (fig n) := by decide
  have := hc n h
  rw [List.getElem?_eq_getElem h] at this
  exact Option.some.inj this
set_option maxHeartbeats 1000000 in
theorem hex_any (S : List UInt8) (h0 : S ≠ []) (hS : 2 * S.length ≤ 140737488355328) (w : World) :
    Calls Tryd.prog 18 #[.string ⟨S.toArray⟩] w fun e w' => e = .returned (.string ⟨(hexL S).toArray⟩) ∧ Below w.heap.size w w' := by
  go_enter Tryd.func18, Tryd.ntmps18
  go_wp2
  go_loopw [7] (fun i wr => ∃ k : Nat, k ≤ S.length ∧ i = .int .i64 k ∧ Hid (if k = 0 then Lib.BuilderAt 66 5 w.heap.size w.heap.size (.pointer none) [] wr else Lib.BuilderAt 66 5 w.heap.size w.heap.size (.pointer (some ⟨w.heap.size, 0, none⟩)) (Lib.byteCells (hexL (S.take k))) wr) ∧ Below w.heap.size w wr) (fun i _ => S.length - (intOf i).toNat)
  case atStart => exact ⟨0, by omega, rfl, by show (if _ then _ else _); rw [if_pos rfl]; exact bld_new w _ rfl, (Below.refl _ _).alloc (Nat.le_refl _) _⟩
  case round =>
    obtain ⟨k, hk, rfl, HB, hbw⟩ := hrel
    by_cases hlt : k < S.length
    · have i0 : (k : Int) < S.length := by omega
      have hIs : Lib.IsBuilder 66 5 w.heap.size w.heap.size (Lib.byteCells (hexL (S.take k))) wr := by
        have h := HB.out
        by_cases hk0 : k = 0
        · subst hk0; rw [if_pos rfl] at h; exact Or.inl h
        · rw [if_neg hk0] at h; exact Or.inr h
      have bl := S[k].toNat_lt
      have ha : bits .and .u8 (S[k].toNat : Int) 15 = (S[k].toNat : Int) % 16 := u8_and15 _ (by omega) (by omega)
      have lt1 : (hexL (S.take k)).length = 2 * k := by rw [hexL_len]; simp; omega
      have g1 : S[k].toNat / 16 < FIG.length := by show _ < 16; omega
      have g2 : S[k].toNat % 16 < FIG.length := by show _ < 16; omega
      have hwr : w.heap.size ≤ wr.heap.size := hbw.size
      go_wp2_with fail
      refine (writeByte_any w.heap.size w.heap.size (hexL (S.take k)) (FIG[S[k].toNat / 16]) wr hIs (by omega) hwr).mono ?_
      rintro e w1 ⟨rfl, hB1, hb1⟩
      go_wp2_with fail
      refine (writeByte_any w.heap.size w.heap.size (hexL (S.take k) ++ [FIG[S[k].toNat / 16]]) (FIG[S[k].toNat % 16]) w1 (Or.inr hB1) (by simp; omega) (by have := hb1.size; omega)).mono ?_
      rintro e w2 ⟨rfl, hB2, hb2⟩
      rw [fig_of _ g1, fig_of _ g2, hexL_take S k hlt] at hB2
      go_wp2_with fail
      go_roundw
      case rel => exact ⟨k + 1, by omega, by go_num, by show (if _ then _ else _); rw [if_neg (by omega)]; exact hB2, (hbw.trans hb1).trans hb2⟩
      case measure => simp [intOf]; omega
    · obtain rfl : k = S.length := by omega
      have hl0 : S.length ≠ 0 := by simpa using h0
      have hB := HB.out
      rw [if_neg hl0, List.take_length] at hB
      have hne : hexL S ≠ [] := by
        intro h
        have := hexL_len S
        rw [h] at this
        simp at this; omega
      go_wp2_with fail
      refine (string_any w.heap.size w.heap.size (hexL S) wr hB hne).mono ?_
      rintro e w1 ⟨rfl, hb1⟩
      go_wp2_with fail
      go_ret
      exact ⟨rfl, hbw.trans hb1⟩
end Go.Proofs.YthdikknjabdfeaaDoor
