/-
  How many may be wrong: in lists.
-/
import Derived.Test.YteehpkkkagdckaaGE
namespace Go.Proofs.Yteehpkkkagdckaa
set_option maxRecDepth 100000
theorem bads_len (h : List Ev) : (badsL h).length ≤ h.length := by
  unfold badsL
  have := List.length_filterMap_le (fun i => if (atL h i).1 = 0 then none else some (atL h i)) (List.range h.length)
  rw [List.length_range] at this
  exact this
theorem counts_no (h : List Ev) (q : Nat) (t : Int) (f e : Nat) (c : Bool) (hf : findL h (ev h q).2.1 = some (t, f, e, c)) (hn : ¬ (c = true ∧ q < e)) : countsB h q = false := by
  cases hb : countsB h q with
  | false => rfl
  | true =>
    obtain ⟨_, _, e', h1, h2⟩ := (counts_iff h q).1 hb
    obtain ⟨f', h3⟩ := comm_find h _ e' h1
    rw [h3] at hf
    simp only [Option.some.injEq, Prod.mk.injEq] at hf
    obtain ⟨_, _, rfl, rfl⟩ := hf
    exact absurd ⟨rfl, h2⟩ hn
theorem counts_yes (h : List Ev) (q : Nat) (hq : q < h.length) (hk : (ev h q).1 = 2) (t : Int) (f e : Nat) (hf : findL h (ev h q).2.1 = some (t, f, e, true)) (hl : q < e) : countsL h q :=
  ⟨hq, hk, e, (find_comm h _ 0 f e t hf).2, hl⟩
theorem atI_no (h : List Ev) (q : Nat) (hc : countsB h q = false) : atI h (q : Int) = (0, 0, 0) := by
  unfold atI
  rw [if_pos (by omega), Int.toNat_natCast]
  unfold atL
  rw [if_pos hc]
theorem outerI_no (h : List Ev) (q : Nat) (hc : countsB h q = false) : outerI h (q : Int) = false := by
  unfold outerI outerB
  rw [Int.toNat_natCast, hc]
  simp
theorem atI_own (h : List Ev) (q k : Nat) (hc : countsL h q) (hl : lastN h (ev h q).2.1 (ev h q).2.2.1 q = some k) : atI h (q : Int) = if (ev h k).2.2.2 = (ev h q).2.2.2 then (0, 0, 0) else (3, (q : Int), (k : Int)) := by
  unfold atI
  rw [if_pos (by omega), Int.toNat_natCast]
  exact at_own h q k hc hl
theorem outerI_own (h : List Ev) (q k : Nat) (hl : lastN h (ev h q).2.1 (ev h q).2.2.1 q = some k) : outerI h (q : Int) = false := by
  unfold outerI outerB
  rw [Int.toNat_natCast, hl]
  simp
end Go.Proofs.Yteehpkkkagdckaa
