/-
  An owned row behind a call: of no program.
-/
import Derived.Test.YtchneiefjjcccaaZBase
namespace Go.Proofs.Ytchneiefjjcccaa
set_option maxRecDepth 100000
open Go.RowKit
theorem owns_below {B e k n : Nat} {v : Value} {xs : List Value} {w w' : World} (h : w.ownsRow B e k v n xs) (hb : Below w.heap.size w w') : w'.ownsRow B e k v n xs := by
  obtain ⟨h1, h2⟩ := h
  refine ⟨h1, ?_⟩
  rcases h2 with h2 | ⟨g, cap, cur, hv, hbg, hg, r⟩
  · exact .inl h2
  · have hlt : g < w.heap.size := by
      rcases Nat.lt_or_ge g w.heap.size with h' | h'
      · exact h'
      · simp [Array.getElem?_eq_none h'] at hg
    exact .inr ⟨g, cap, cur, hv, hbg, (hb.block g hlt).trans hg, r⟩
end Go.Proofs.Ytchneiefjjcccaa
