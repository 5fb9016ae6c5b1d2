/-
  What cartoucheref01.Less answers.
-/
import Derived.Test.YteehpkkkagdckaaProg
import Derived.Test.YteehpkkkagdckaaGA
import Derived.Test.YteehpkkkagdckaaGC
import Derived.BigQuiet
import Derived.Deep.QuietTactic
namespace Go.Proofs.Yteehpkkkagdckaa
set_option maxRecDepth 100000
open Go.RowKit
set_option linter.unusedVariables false
attribute [local go_sem] ba_size ba_get
set_option maxHeartbeats 2000000 in
theorem rless_any (a b : List UInt8) (ha : a.length ≤ 9223372036854775807) (hb : b.length ≤ 9223372036854775807) (w : World) :
    Calls Try.prog 52 #[.string ⟨a.toArray⟩, .string ⟨b.toArray⟩] w fun e w' => e = .returned (.bool (lessB a b)) ∧ Below w.heap.size w w' := by
  obtain ⟨O, hO⟩ : ∃ O, lessB a b = O := ⟨_, rfl⟩
  rw [hO]
  have H0 : Hid (lessB (a.drop 0) (b.drop 0) = O) := hO
  clear hO
  go_enter Try.func52, Try.ntmps52
  go_wp2_with fail
  go_loopw [5] (fun i wr => ∃ k : Nat, k ≤ a.length ∧ k ≤ b.length ∧ i = .int .i64 k ∧ Hid (lessB (a.drop k) (b.drop k) = O) ∧ Below w.heap.size w wr) (fun i _ => a.length - (intOf i).toNat)
  case atStart => exact ⟨0, Nat.zero_le _, Nat.zero_le _, rfl, H0, Below.refl _ _⟩
  case round =>
    obtain ⟨k, hka, hkb, rfl, HK, hbw⟩ := hrel
    by_cases hla : k < a.length
    · by_cases hlb : k < b.length
      · have HD : Hid (lessB (a[k] :: a.drop (k + 1)) (b[k] :: b.drop (k + 1)) = O) := by
          have := HK.out
          rw [List.drop_eq_getElem_cons hla, List.drop_eq_getElem_cons hlb] at this
          exact this
        obtain ⟨x, hx⟩ : ∃ x, a[k] = x := ⟨_, rfl⟩
        obtain ⟨y, hy⟩ : ∃ y, b[k] = y := ⟨_, rfl⟩
        rw [hx, hy] at HD
        have i1 : (k : Int) < (a.length : Int) := by omega
        have i2 : (k : Int) < (b.length : Int) := by omega
        by_cases d : x = y
        · have HD' : Hid (lessB (a.drop (k + 1)) (b.drop (k + 1)) = O) := by
            have := HD.out
            rw [lessB_same x y _ _ d] at this
            exact this
          have e1 : ((x.toNat : Int) != (y.toNat : Int)) = false := by rw [d]; simp
          go_wp2_with fail
          go_quiet (fail)
          go_wp2_with fail
          refine ⟨?relA, ?meaA⟩
          case relA => exact ⟨k + 1, by omega, by omega, by first | go_num | simp, HD', below_drewN hbw _⟩
          case meaA => simp [intOf]; omega
        · have HR : Hid (O = decide (x.toNat < y.toNat)) := by
            have := HD.out
            rw [lessB_diff x y _ _ d] at this
            exact this.symm
          have e1 : ((x.toNat : Int) != (y.toNat : Int)) = true := bne_iff_ne.2 (fun hh => d (UInt8.toNat_inj.1 (by omega)))
          go_wp2_with fail
          go_quiet (fail)
          go_wp2_with fail
          go_quiet (fail)
          go_wp2_with fail
          go_ret
          exact ⟨by rw [HR.out]; rfl, below_drewN (below_drewN hbw _) _⟩
      · have HR : Hid (O = decide (a.length < b.length)) := by
          have := HK.out
          have hb0 : b.drop k = [] := List.drop_eq_nil_of_le (by omega)
          rw [List.drop_eq_getElem_cons hla, hb0, lessB_cons_nil] at this
          show O = _
          rw [← this, decide_eq_false (by omega)]
        have i1 : (k : Int) < (a.length : Int) := by omega
        have i2 : ¬ (k : Int) < (b.length : Int) := by omega
        go_wp2_with fail
        go_ret
        exact ⟨by rw [HR.out]; rfl, hbw⟩
    · have HR : Hid (O = decide (a.length < b.length)) := by
        have := HK.out
        have ha0 : a.drop k = [] := List.drop_eq_nil_of_le (by omega)
        rw [ha0, lessB_nil, List.length_drop] at this
        show O = _
        rw [← this, decide_eq_decide]
        omega
      have i1 : ¬ (k : Int) < (a.length : Int) := by omega
      go_wp2_with fail
      go_ret
      exact ⟨by rw [HR.out]; rfl, hbw⟩
end Go.Proofs.Yteehpkkkagdckaa
