/-
  What cartoucheref10.SameSteps answers of two rows of the same steps.
-/
import Derived.Test.YtpfpkpaodlmlaaaGE
import Derived.Test.YtpfpkpaodlmlaaaZR10Same
import Derived.Deep.RegionHeld3
import Derived.Lib.Hide
import Derived.BigQuiet
import Derived.Deep.QuietTactic
namespace Go.Proofs.Ytpfpkpaodlmlaaa
set_option maxRecDepth 100000
open Go.RowKit
set_option linter.unusedVariables false
attribute [local go_sem] ba_size
set_option maxHeartbeats 4000000 in
theorem rsames_any (v1 v2 : Value) (L : List Stp) (w : World) (h1 : IsSts w v1 L) (h2 : IsSts w v2 L) :
    Calls Try.prog 19 #[v1, v2] w fun e w' => e = .returned (.bool true) ∧ Below w.heap.size w w' := by
  obtain ⟨a1, c1, rfl, p1, p2, p3, H1⟩ := h1.reads
  obtain ⟨a2, c2, rfl, q1, q2, q3, H2⟩ := h2.reads
  clear h1 h2
  obtain ⟨n, hn⟩ : ∃ n, L.length = n := ⟨_, rfl⟩
  have HN : Hid (L.length = n) := hn
  rw [hn] at p1 p3 q1 q3 ⊢
  clear hn
  have hbne : ((n : Int) != (n : Int)) = false := by simp
  go_enter Try.func19, Try.ntmps19
  go_wp2_with fail
  go_loopw [5] (fun i wr => ∃ k : Nat, k ≤ n ∧ i = .int .i64 k ∧ Below w.heap.size w wr) (fun i _ => n - (intOf i).toNat)
  case atStart => exact ⟨0, Nat.zero_le _, rfl, Below.refl _ _⟩
  case round =>
    obtain ⟨k, hk, rfl, hbw⟩ := hrel
    by_cases hlt : k < n
    · have hk1 : k < L.length := by have := HN.out; omega
      have jk : (k : Int) < (n : Int) := by omega
      obtain ⟨b1, o1, rfl, u1, E1, C1⟩ := H1.out k hk1
      obtain ⟨b2, o2, rfl, u2, E2, C2⟩ := H2.out k hk1
      have CS := fun W (hW : Below w.heap.size w W) => rsamee_any u1 u2 L[k].2.2 L[k].2.2 W (E1.below hW) (E2.below hW)
      rw [decide_eq_true rfl] at CS
      obtain ⟨⟨f, t, E⟩, hx⟩ : ∃ x, L[k] = x := ⟨_, rfl⟩
      rw [hx] at C1 C2
      simp only at C1 C2
      clear hx E1 E2
      have HC1 := Lib.hid C1
      have HC2 := Lib.hid C2
      obtain ⟨x0, x1, x2⟩ := C1 _ hbw
      obtain ⟨y0, y1, y2⟩ := C2 _ hbw
      clear C1 C2
      have S0 : (fun V => Below w.heap.size w V ∧ V.cell? ⟨b1, o1 + k * 3 + 2, none⟩ = some u1 ∧ V.cell? ⟨b2, o2 + k * 3 + 2, none⟩ = some u2) wr.drew := ⟨hbw.drew, x2, y2⟩
      have keepS : ∀ V V' : World, (fun V => Below w.heap.size w V ∧ V.cell? ⟨b1, o1 + k * 3 + 2, none⟩ = some u1 ∧ V.cell? ⟨b2, o2 + k * 3 + 2, none⟩ = some u2) V → Below V.heap.size V V' → (fun V => Below w.heap.size w V ∧ V.cell? ⟨b1, o1 + k * 3 + 2, none⟩ = some u1 ∧ V.cell? ⟨b2, o2 + k * 3 + 2, none⟩ = some u2) V' := fun V V' ⟨a, b, c⟩ d => ⟨bel_trans a d, cell_bel d b, cell_bel d c⟩
      go_wp2_with fail
      go_region_held3 (fun V => Below w.heap.size w V ∧ V.cell? ⟨b1, o1 + k * 3 + 2, none⟩ = some u1 ∧ V.cell? ⟨b2, o2 + k * 3 + 2, none⟩ = some u2) (first | exact S0 | exact keepS _ _ (by assumption) (by assumption)) (first | (go_at_call 41; refine (CS _ (And.left (by assumption))).mono ?_; rintro e' w' ⟨rfl, b8⟩))
      rename_i hHeld8
      have B2 := hHeld8.1
      clear S0 keepS hHeld8 x0 x1 x2 y0 y1 y2
      obtain ⟨x0, x1, x2⟩ := HC1.out _ B2
      obtain ⟨y0, y1, y2⟩ := HC2.out _ B2
      go_wp2_with fail
      go_quiet (fail)
      go_wp2_with fail
      refine ⟨⟨k + 1, by omega, by first | go_num | simp, below_drewN B2 _⟩, by simp [intOf]; omega⟩
    · obtain rfl : k = n := by omega
      have j0 : ¬ (k : Int) < (k : Int) := by omega
      go_wp2_with fail
      go_ret
      exact ⟨rfl, hbw⟩
end Go.Proofs.Ytpfpkpaodlmlaaa
