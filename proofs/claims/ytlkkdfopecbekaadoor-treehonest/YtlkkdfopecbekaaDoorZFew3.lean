/-
  What cartouchelaw03.few answers.
-/
import Derived.Test.YtlkkdfopecbekaaDoorZRes3
namespace Go.Proofs.YtlkkdfopecbekaaDoor
set_option maxRecDepth 100000
open Go.RowKit
set_option linter.unusedVariables false
attribute [local go_sem] ba_size
/-- At most 200 texts, none above 2000 bytes. -/
def fewL (l : List (List UInt8)) : Bool := decide (l.length ≤ 200 ∧ ∀ s ∈ l, s.length ≤ 2000)
theorem fewL_len {l : List (List UInt8)} (h : fewL l = true) : l.length ≤ 200 := (of_decide_eq_true h).1
theorem fewL_no {l : List (List UInt8)} (k : Nat) (hk : k < l.length) (h : 2000 < l[k].length) : fewL l = false := by
  unfold fewL
  apply decide_eq_false
  intro hh
  have := hh.2 _ (List.getElem_mem hk)
  omega
theorem fewL_all {l : List (List UInt8)} (h : ∀ s ∈ l, s.length ≤ 2000) : fewL l = decide (l.length ≤ 200) := by
  unfold fewL
  by_cases h1 : l.length ≤ 200
  · rw [decide_eq_true h1, decide_eq_true ⟨h1, h⟩]
  · rw [decide_eq_false h1, decide_eq_false (fun hh => h1 hh.1)]
set_option maxHeartbeats 1000000 in
theorem few_any (l : List (List UInt8)) (v : Value) (w : World) (hT : IsTxt w v l) :
    Calls Tryd.prog 13 #[v] w fun e w' => e = .returned (.bool (fewL l)) ∧ Below w.heap.size w w' := by
  obtain ⟨a, cap, rfl, h1, h2, h3, HC⟩ := hT.some_at
  have hno := fun k hk => fewL_no (l := l) k hk
  have hall := fewL_all (l := l)
  have HNO : Hid (∀ k (hk : k < l.length), 2000 < l[k].length → fewL l = false) := hno
  have HALL : Hid ((∀ s ∈ l, s.length ≤ 2000) → fewL l = decide (l.length ≤ 200)) := hall
  clear hno hall hT
  go_enter Tryd.func13, Tryd.ntmps13
  go_wp2_with fail
  go_loop [3] (fun j => ∃ k : Nat, k ≤ l.length ∧ j = .int .i64 k ∧ Hid (∀ x ∈ l.take k, x.length ≤ 2000)) (fun j => l.length - (intOf j).toNat)
  case atStart => exact ⟨0, Nat.zero_le _, rfl, fun x hx => by simp at hx⟩
  case round =>
    obtain ⟨k, hk, rfl, HA⟩ := hrel
    by_cases hlt : k < l.length
    · have j0 : (k : Int) < (l.length : Int) := by omega
      obtain ⟨b, off, rfl, hblt, c0⟩ := HC.out k hlt
      by_cases hs : l[k].length ≤ 2000
      · have HA' : Hid (∀ x ∈ l.take (k + 1), x.length ≤ 2000) := by
          intro x hx
          rw [List.take_succ_eq_append_getElem hlt] at hx
          rcases List.mem_append.1 hx with h | h
          · exact HA.out x h
          · rw [List.mem_singleton] at h; rw [h]; exact hs
        obtain ⟨pk, hpk⟩ : ∃ pk, l[k] = pk := ⟨_, rfl⟩
        rw [hpk] at c0 hs
        clear hpk
        have j1 : ¬ (2000 : Int) < (pk.length : Int) := by omega
        go_wp2_with fail
        refine ⟨?relA, ?measureA⟩
        case relA => exact ⟨k + 1, by omega, by go_num, HA'⟩
        case measureA => simp [intOf]; omega
      · have HE : Hid (fewL l = false) := HNO.out k hlt (by omega)
        obtain ⟨pk, hpk⟩ : ∃ pk, l[k] = pk := ⟨_, rfl⟩
        rw [hpk] at c0 hs
        clear hpk
        have j1 : (2000 : Int) < (pk.length : Int) := by omega
        go_wp2_with fail
        go_ret
        exact ⟨by rw [HE.out]; rfl, Below.refl _ _⟩
    · obtain rfl : k = l.length := by omega
      have HE : Hid (fewL l = decide ((l.length : Int) ≤ 200)) := by
        have h := HA.out
        rw [List.take_of_length_le (Nat.le_refl _)] at h
        have e := HALL.out h
        show fewL l = _
        rw [e]
        by_cases h2 : l.length ≤ 200
        · rw [decide_eq_true h2, decide_eq_true (by omega)]
        · rw [decide_eq_false h2, decide_eq_false (by omega)]
      clear HA HALL HNO HC
      go_wp2_with fail
      go_ret
      exact ⟨by rw [HE.out]; rfl, Below.refl _ _⟩
end Go.Proofs.YtlkkdfopecbekaaDoor
