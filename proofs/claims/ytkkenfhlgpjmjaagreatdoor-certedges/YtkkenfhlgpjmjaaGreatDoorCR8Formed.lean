/-
  What cartoucheref08.Formed answers.
-/
import Derived.Test.YtkkenfhlgpjmjaaGreatDoorCL0d
namespace Go.Proofs.YtkkenfhlgpjmjaaGreatDoor
set_option maxRecDepth 100000
open Go.RowKit
set_option linter.unusedVariables false
attribute [local go_sem] ba_size
theorem formed_big (h:List Ev) (hl:256 < h.length):formedL h=(0,4):=by unfold formedL;rw [if_pos hl]
theorem formed_at (h:List Ev) (hl:¬ 256 < h.length) (k c:Nat) (hk:k < h.length) (ha:∀ j,j < k→wrongAt h j=false) (hs:formStep h k=c) (hc:c≠0):formedL h=(k,c):=by
 unfold formedL
 rw [if_neg hl,(fi_some _ _ k).2 ⟨hk,decide_eq_true (by rw [hs];exact hc),ha⟩]
 simp only
 rw [hs]
theorem formed_open (h:List Ev) (hl:¬ 256 < h.length) (ha:∀ j,j < h.length→wrongAt h j=false) (k:Nat) (hk:k < h.length) (ho:openAt h k=true):formedL h=(h.length,9):=by
 unfold formedL
 rw [if_neg hl,(fi_none _ _).2 ha]
 simp only
 rw [if_neg (fun hh=>by have:=(fi_none _ _).1 hh k hk;rw [ho] at this;cases this)]
theorem formed_fine (h:List Ev) (hl:¬ 256 < h.length) (ha:∀ j,j < h.length→wrongAt h j=false) (ho:∀ j,j < h.length→openAt h j=false):formedL h=(h.length,0):=by
 unfold formedL
 rw [if_neg hl,(fi_none _ _).2 ha]
 simp only
 rw [if_pos ((fi_none _ _).2 ho)]
end Go.Proofs.YtkkenfhlgpjmjaaGreatDoor
