/-
  What cartoucheref02.pad answers.
-/
import Derived.Test.YthdikknjabdfeaaDoorMarkS
import Derived.Test.YthdikknjabdfeaaDoorBytes
import Derived.Test.YthdikknjabdfeaaDoorByteInfo
import Derived.Test.YthdikknjabdfeaaDoorTurnsL
namespace Go.Proofs.YthdikknjabdfeaaDoor
open Go.RowKit
set_option linter.unusedVariables false
attribute [local go_sem] ba_size ba_get
def vlen : Value → Nat
  | .slice _ n _ => n
  | _ => 0
set_option maxHeartbeats 1000000 in
theorem rpad_any (S : List UInt8) (hS : S.length ≤ 64) (w : World) :
    Calls Tryd.prog 36 #[.string ⟨S.toArray⟩] w fun e w' => e = .returned (.string ⟨(padL S).toArray⟩) ∧ Below w.heap.size w w' := by
  obtain ⟨i0, hi, hz0, hz1, hz2⟩ := info_parts byte_info
  have hcv := Lib.run_convert_string_bytes (P := Tryd.prog) w 9 64 5 ⟨S.toArray⟩ Tryd.underlying9 Tryd.underlying64 Tryd.underlying5
  have HO0 : OwnB (Lib.bytesWorld w 5 ⟨S.toArray⟩) w.heap.size 5 (.slice (some ⟨w.heap.size, 0, none⟩) S.length (grownCap w S.length 0 5)) S.length (Lib.byteCells S) := by
    have h := ownB_of_bytes w 5 ⟨S.toArray⟩ (by rw [ba_size]; unfold maxLen; omega)
    rw [strCells_list, ba_size] at h
    exact h
  rw [ba_size] at hcv
  have hb0 := bytesWorld_bel w 5 ⟨S.toArray⟩
  go_enter Tryd.func36, Tryd.ntmps36
  go_wp2_with fail
  obtain ⟨w1, hw1⟩ : ∃ w1, Lib.bytesWorld w 5 ⟨S.toArray⟩ = w1 := ⟨_, rfl⟩
  rw [hw1] at HO0 hb0 ⊢
  clear hw1 hcv
  go_loopw [3] (fun v wr => ∃ P : List UInt8, P.length ≤ 64 ∧ Hid (padL P = padL S) ∧ Hid (OwnB wr w.heap.size 5 v P.length (Lib.byteCells P)) ∧ Below w.heap.size w wr) (fun v _ => 64 - vlen v)
  case atStart => exact ⟨S, hS, (rfl : _ = _), HO0, hb0⟩
  case round =>
    obtain ⟨P, hP, hp, HO, hbw⟩ := hrel
    obtain ⟨g, cap, rfl, hg1, hg2⟩ := HO.out.slice
    have hbs := hbw.size
    by_cases hlt : P.length < 64
    · have i0' : (P.length : Int) < 64 := by omega
      go_wp2_with (at_builtin; refine wpList_appendBS _ rfl _ _ 64 rfl w.heap.size 5 i0 Tryd.underlying64 hi hz0 hz1 hz2 _ _ _ rfl (HO.out.alloc _) ⟨wr.heap.size, 0, none⟩ 1 1 [.int .u8 0] rfl rfl ?d1 ?d2 ?d3 ?d4 ?d5 ?_)
      case d1 =>
        intro j u hj
        match j, hj with
        | 0, hj => simp at hj; subst hj; simp [Addr.add]
      case d2 => intro u hu; simp at hu; subst hu; rfl
      case d3 => unfold maxLen; omega
      case d4 => omega
      case d5 => simp; omega
      intro v' w2 hown' hgrow
      obtain ⟨g', cap', rfl, hg3, hg4⟩ := hown'.slice
      have hbn : Below w.heap.size w w2 := (hbw.alloc hbs _).grown hgrow (by simp; omega) (fun j hj => (HO.out.lt j hj).1)
      go_wp2_with fail
      refine ⟨?relP, ?measureP⟩
      case relP =>
        refine ⟨P ++ [0], by simp; omega, (padL_step P hlt).trans hp.out, ?_, hbn⟩
        have e : Lib.byteCells (P ++ [0]) = Lib.byteCells P ++ [.int .u8 0] := by simp [Lib.byteCells]
        rw [e, List.length_append]
        exact hown'
      case measureP => simp [vlen]; omega
    · have hP64 : P.length = 64 := by omega
      have i0' : ¬ (P.length : Int) < 64 := by omega
      have hst := HO.out.string (P := Tryd.prog) 64 9 Tryd.underlying64 Tryd.underlying5 Tryd.underlying9
      rw [hP64] at hst
      go_wp2_with fail
      go_ret
      exact ⟨by rw [← hp.out, padL_full P hP64]; rfl, hbw⟩
end Go.Proofs.YthdikknjabdfeaaDoor
