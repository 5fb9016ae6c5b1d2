/-
  What cartoucheref07.figures answers.
-/
import Derived.Test.YtihggfkenhkglaaDoorGA
import Derived.Test.YtihggfkenhkglaaDoorGB
namespace Go.Proofs.YtihggfkenhkglaaDoor
set_option maxRecDepth 100000
open Go.RowKit
set_option linter.unusedVariables false
attribute [local go_sem] ba_size ba_append
theorem figsL_len (n : Nat) : ∀ m, n < 10 ^ m → (figsL n).length ≤ m + 1 := by
  intro m
  induction m generalizing n with
  | zero => intro h; have : n = 0 := by simpa using h
            subst this; rw [figsL_eq]; simp
  | succ m ih =>
    intro h
    rw [figsL_eq]
    by_cases h1 : n < 10
    · rw [dif_pos h1]; simp
    · rw [dif_neg h1, List.length_append]
      have := ih (n / 10) (by rw [Nat.pow_succ] at h; omega)
      simp
      omega
theorem fig_byte (r : Nat) : UInt8.ofNat (48 + r) = 48 + UInt8.ofNat r := by rw [UInt8.ofNat_add]; rfl
set_option maxHeartbeats 1000000 in
theorem rfigures_any (n : Nat) (hn : n ≤ 1000000) (w : World) :
    Calls Tryd.prog 34 #[.int .i64 (n : Int)] w fun e w' => e = .returned (.string ⟨(figsL n).toArray⟩) ∧ Below w.heap.size w w' := by
  have c1 := conv1
  have HN : Hid (figsL n ++ [] = figsL n) := List.append_nil _
  go_enter Tryd.func34, Tryd.ntmps34
  go_wp2_with fail
  go_loopw [0, 3] (fun i sv wr => ∃ (m : Nat) (t : List UInt8), m ≤ 1000000 ∧ t.length + (figsL m).length ≤ 100 ∧ i = .int .i64 (m : Int) ∧ sv = .string ⟨t.toArray⟩ ∧ Hid (figsL m ++ t = figsL n) ∧ Below w.heap.size w wr) (fun i _ _ => (intOf i).toNat)
  case atStart =>
    refine ⟨n, [], hn, ?_, rfl, rfl, HN, Below.refl _ _⟩
    have := figsL_len n 7 (by omega)
    simp
    omega
  case round =>
    obtain ⟨m, t, hm, ht, rfl, rfl, HT, hbw⟩ := hrel
    obtain ⟨q, hq⟩ : ∃ q, m / 10 = q := ⟨_, rfl⟩
    obtain ⟨r, hr⟩ : ∃ r, m % 10 = r := ⟨_, rfl⟩
    have r10 : r < 10 := by omega
    have e1 : Int.tdiv (m : Int) 10 = (q : Int) := by rw [Int.tdiv_eq_ediv_of_nonneg (by omega)]; omega
    have e2 : Int.tmod (m : Int) 10 = (r : Int) := by rw [Int.tmod_eq_emod_of_nonneg (by omega)]; omega
    have e3 : (m : Int) / 10 = (q : Int) := by omega
    have e4 : (m : Int) % 10 = (r : Int) := by omega
    have u1 : IntKind.u8.wrap (r : Int) = (r : Int) := by rw [IntKind.wrap_u8]; omega
    have u2 : IntKind.u8.wrap (48 + (r : Int)) = ((48 + r : Nat) : Int) := by rw [IntKind.wrap_u8]; omega
    have z1 : 1 + t.length ≤ 9223372036854775807 := by omega
    by_cases h1 : q = 0
    · subst h1
      have HF : Hid ((48 + UInt8.ofNat r) :: t = figsL n) := by
        have h := HT.out
        rw [figsL_eq] at h
        rw [dif_pos (by omega)] at h
        show _ = _
        rw [← h, ← hr, fig_byte, Nat.mod_eq_of_lt (by omega)]
        rfl
      clear hq hr
      go_wp2_with fail
      go_ret
      exact ⟨by rw [HF.out]; rfl, hbw.alloc hbw.size _⟩
    · have j1 : ((q : Int) == 0) = false := by rw [beq_eq_false_iff_ne]; omega
      have hf : figsL m = figsL q ++ [48 + UInt8.ofNat r] := by
        rw [figsL_eq, dif_neg (by omega), hq, hr, fig_byte]
      have hl : (figsL m).length = (figsL q).length + 1 := by rw [hf]; simp
      have HF : Hid (figsL q ++ ((48 + UInt8.ofNat r) :: t) = figsL n) := by
        have h := HT.out
        rw [hf, List.append_assoc] at h
        exact h
      have hqm : q < m := by omega
      clear hq hr hf
      go_wp2_with fail
      exact ⟨⟨q, _, by omega, by simp only [List.length_cons]; omega, rfl, rfl, HF, hbw.alloc hbw.size _⟩, by simp [intOf]; omega⟩
end Go.Proofs.YtihggfkenhkglaaDoor
