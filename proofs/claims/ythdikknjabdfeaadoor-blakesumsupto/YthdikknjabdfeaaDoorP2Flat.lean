/-
  What blake.flat answers.
-/
import Derived.Test.YthdikknjabdfeaaDoorProg
import Derived.Test.YthdikknjabdfeaaDoorByteRow
import Derived.Test.YthdikknjabdfeaaDoorWordsB
namespace Go.Proofs.YthdikknjabdfeaaDoor
open Go.RowKit
set_option linter.unusedVariables false
attribute [local go_sem] wv_get wv_getE wv_set wv_size
/-- The words as bytes, as far as they are laid. -/
def fl (H : List Int) (k : Nat) : List UInt8 := (List.range 32).map fun i => if i < k then UInt8.ofNat ((at_ H (i / 4) / 2 ^ (8 * (i % 4))) % 256).toNat else 0
theorem fl_len (H : List Int) (k : Nat) : (fl H k).length = 32 := by simp [fl]
theorem fl_set (H : List Int) (k : Nat) (x : UInt8) (hx : x = UInt8.ofNat ((at_ H (k / 4) / 2 ^ (8 * (k % 4))) % 256).toNat) : (fl H k).set k x = fl H (k + 1) := by
  subst hx
  apply List.ext_getElem
  · simp [fl]
  · intro i h1 h2
    simp only [List.getElem_set, fl, List.getElem_map, List.getElem_range]
    by_cases h : k = i
    · subst h; simp
    · rw [if_neg h]
      by_cases h3 : i < k
      · rw [if_pos h3, if_pos (by omega)]
      · rw [if_neg h3, if_neg (by omega)]
theorem byte_of (x : Int) : (Value.int .u8 (x % 256)) = .int .u8 ((UInt8.ofNat (x % 256).toNat).toNat : Int) := by
  congr 1
  simp; omega
set_option maxHeartbeats 1000000 in
theorem flat_any (H : List Int) (hH : H.length = 8) (w : World) :
    Calls Tryd.prog 39 #[.agg (wv H)] w fun e w' => e = .returned (.string ⟨(fl H 32).toArray⟩) ∧ Below w.heap.size w w' := by
  have hHs : (wv H).size = 8 := by rw [wv_size, hH]
  go_enter Tryd.func39, Tryd.ntmps39
  go_wp2
  go_loopw [5] (fun i wr => ∃ k : Nat, k ≤ 32 ∧ i = .int .i64 k ∧ Hid (Row wr w.heap.size 24 H) ∧ Hid (BRow wr (w.heap.size + 1) 78 (fl H k)) ∧ Below w.heap.size w wr) (fun i _ => 32 - (intOf i).toNat)
  case atStart =>
    refine ⟨0, by omega, rfl, ?_, ?_, ((Below.refl _ _).alloc (Nat.le_refl _) _).alloc (by simp) _⟩
    · exact heap_alloc2_old w _ _
    · exact heap_alloc2_new w _ _
  case round =>
    obtain ⟨k, hk, rfl, HR, HB, hbw⟩ := hrel
    by_cases hlt : k < 32
    · have i0 : (k : Int) < 32 := by omega
      have p0 : (0 : Int) ≤ k := by omega
      have lf := fl_len H k
      have q8 : k / 4 < 8 := by omega
      have c0 : wr.cell? ⟨w.heap.size, k / 4, none⟩ = some (.int .u32 (at_ H (k / 4))) := by rw [HR.out.cell _ (by omega), at_eq]
      obtain ⟨y, hy⟩ : ∃ y, at_ H (k / 4) = y := ⟨_, rfl⟩
      rw [hy] at c0
      have cB := HB.out.cell k (by omega)
      have fB := HB.out.frozen k
      go_wp2
      go_roundw
      case rel =>
        refine ⟨k + 1, by omega, by go_num, HR.out.other _ _ _ (by omega), ?_, hbw.setCell (by simp) _⟩
        rw [byte_of, ← fl_set H k _ (by rw [hy])]
        exact HB.out.set k _
      case measure => simp [intOf]; omega
    · obtain rfl : k = 32 := by omega
      have hconv := HB.out.string (P := Tryd.prog) 64 5 9 (by kernel_rfl) (by kernel_rfl) (by kernel_rfl) 32 32 (fl_len H 32)
      go_wp2
      go_ret
      exact ⟨rfl, hbw⟩
end Go.Proofs.YthdikknjabdfeaaDoor
