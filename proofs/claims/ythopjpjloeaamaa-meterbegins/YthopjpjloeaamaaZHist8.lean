/-
  Bounds of what histories give: in lists.
-/
import Derived.Test.YthopjpjloeaamaaZHistN
import Derived.Test.YthopjpjloeaamaaZKeys8
namespace Go.Proofs.Ythopjpjloeaamaa
set_option maxRecDepth 100000
set_option linter.unusedVariables false
theorem lives_len (h : List Ev) : (livesL h).length ≤ h.length := by
  unfold livesL
  have := List.length_filterMap_le (fun i => if fstL h (ev h i).2.1 i = none then findL h (ev h i).2.1 else none) (List.range h.length)
  rw [List.length_range] at this
  exact this
theorem vers_len (h : List Ev) (key : List UInt8) : (versL h key).length ≤ h.length := by
  unfold versL
  have := List.length_filterMap_le (verOf h key) (List.range h.length)
  rw [List.length_range] at this
  exact this
theorem keysF_len : ∀ (l : List Ev) (acc : List (List UInt8)), (keysF acc l).length ≤ acc.length + l.length
  | [], acc => by rw [keysF]; simp
  | x :: l, acc => by
    rw [keysF]
    have h1 := keysF_len l (if keyedE x.1 then insK x.2.2.1 acc else acc)
    have h2 : (if keyedE x.1 then insK x.2.2.1 acc else acc).length ≤ acc.length + 1 := by
      by_cases hk : keyedE x.1
      · rw [if_pos hk]; exact insK_len _ _
      · rw [if_neg hk]; omega
    simp only [List.length_cons]
    omega
theorem keys_len (h : List Ev) : (keysL h).length ≤ h.length := by
  have := keysF_len h []
  simpa [keysL] using this
end Go.Proofs.Ythopjpjloeaamaa
