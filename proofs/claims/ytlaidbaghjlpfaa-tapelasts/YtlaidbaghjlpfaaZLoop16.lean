/-
  Tapes in loops: what holds while one is written, in lists and in boxes.
-/
import Derived.Test.YtlaidbaghjlpfaaGU
namespace Go.Proofs.Ytlaidbaghjlpfaa
set_option maxRecDepth 100000
open Go.RowKit
set_option linter.unusedVariables false
structure KS (w W : World) (b4 : Nat) (x : Array Value) (o7 : Option Nat) : Prop where
  bel : Below w.heap.size w W
  x4 : SBox W b4 23 x
  x7 : ∀ b, o7 = some b → SBox W b 23 zT16 ∧ b4 < b
structure KE (w W : World) (b4 b7 : Nat) (x y : Array Value) : Prop where
  bel : Below w.heap.size w W
  x4 : SBox W b4 23 x
  x7 : SBox W b7 23 y
  lt : b4 < b7
section
variable {w W W' : World} {b4 : Nat} {x : Array Value} {o7 : Option Nat}
theorem KS.below (h : KS w W b4 x o7) (hb : Below W.heap.size W W') : KS w W' b4 x o7 := ⟨bel_trans h.bel hb, h.x4.below hb, fun b e => ⟨(h.x7 b e).1.below hb, (h.x7 b e).2⟩⟩
theorem KS.alloc7 (h : KS w W b4 x none) : KS w (W.alloc (.cells zT16 23)) b4 x (some W.heap.size) :=
  ⟨h.bel.alloc h.bel.size _, h.x4.alloc _, fun b e => by cases e; exact ⟨SBox.new W _ _, h.x4.lt⟩⟩
theorem KS.put {b : Nat} (h : KS w W b4 x (some b)) (hw : w.heap.size ≤ b4) (v0 v1 v2 v3 v4 : Value) : KE w (put5T W b v0 v1 v2 v3 v4) b4 b x #[v0, v1, v2, v3, v4] := by
  obtain ⟨g1, g2⟩ := h.x7 b rfl
  exact ⟨bel_put5 h.bel (by omega) _ _ _ _ _, h.x4.other5 (by omega) _ _ _ _ _, g1.put5 _ _ _ _ _, g2⟩
end
/-- A record written on a tape with room and power. -/
theorem back_step (l : List (List UInt8)) (k : Nat) (hk : k < l.length) (hn : l.length ≤ 100) (hs : ∀ t ∈ l.take k, t.length ≤ 65535) :
    (Lm.body (l.take k)).length ≤ k * 65538 ∧ ∃ q' r' E, writeT ([], Lm.body (l.take k), 16777216 - ((Lm.body (l.take k)).length : Int), -1, false) l[k] = (([], q', r', -1, false), E) ∧
      ((E = 0 ∧ q' = Lm.body (l.take (k + 1)) ∧ r' = 16777216 - ((Lm.body (l.take (k + 1))).length : Int) ∧ ∀ t ∈ l.take (k + 1), t.length ≤ 65535) ∨ (E = 4 ∧ 65535 < l[k].length)) := by
  have hb : ∀ L : List (List UInt8), (∀ t ∈ L, t.length ≤ 65535) → (Lm.body L).length ≤ L.length * 65538 := by
    intro L
    induction L with
    | nil => intro _; exact Nat.le_refl _
    | cons t r ih =>
      intro h
      have h1 := h t (by simp)
      have h2 := ih (fun x hx => h x (by simp [hx]))
      have h3 := Lm.lenL_le t.length
      simp only [Lm.body, List.length_append, List.length_cons]
      omega
  have h1 := hb _ hs
  rw [List.length_take, Nat.min_eq_left (by omega)] at h1
  refine ⟨h1, ?_⟩
  by_cases h2 : 65535 < l[k].length
  · exact ⟨Lm.body (l.take k), 16777216 - ((Lm.body (l.take k)).length : Int), 4, by unfold writeT; simp only; rw [if_neg (by simp), if_pos h2], .inr ⟨rfl, h2⟩⟩
  · have e1 : l.take (k + 1) = l.take k ++ [l[k]] := List.take_succ_eq_append_getElem hk
    have e2 : Lm.body (l.take (k + 1)) = Lm.body (l.take k) ++ (Lm.lenL l[k].length ++ l[k]) := by rw [e1, Lm.body_append]; simp [Lm.body]
    have h3 := Lm.lenL_le l[k].length
    refine ⟨_, _, 0, ?_, .inl ⟨rfl, rfl, rfl, ?_⟩⟩
    · unfold writeT laidT
      simp only
      rw [if_neg (by simp), if_neg h2, if_neg (by rw [List.length_append]; omega), if_neg (by omega), if_neg (by omega), e2]
      have e3 : (Lm.body (l.take k) ++ (Lm.lenL l[k].length ++ l[k])).length = (Lm.body (l.take k)).length + (Lm.lenL l[k].length ++ l[k]).length := List.length_append
      congr 4
      omega
    · intro t ht
      rw [e1] at ht
      rcases List.mem_append.1 ht with ht | ht
      · exact hs t ht
      · rw [List.mem_singleton] at ht; subst ht; omega
end Go.Proofs.Ytlaidbaghjlpfaa
