/-
  What is told of a read is so, as a walk wants it: in lists.
-/
import Derived.Test.YtljgflgfcbmgiaaZBads9
import Derived.Test.YtljgflgfcbmgiaaZR9All
namespace Go.Proofs.Ytljgflgfcbmgiaa
set_option maxRecDepth 100000
set_option linter.unusedVariables false
theorem find_is {h : List Ev} {t : Int} {x : Lf} (hx : findL h t = some x) : x.1 = t ∧ (x.2.2.2 = true ↔ ∃ e, commL h t = some e) := by
  obtain ⟨t', f, e, c⟩ := x
  unfold findL at hx
  cases h1 : fstL h t h.length with
  | none => rw [h1] at hx; cases hx
  | some f' =>
    rw [h1] at hx
    simp only at hx
    cases h2 : endL h t h.length with
    | none =>
      rw [h2] at hx
      simp only [Option.some.injEq, Prod.mk.injEq] at hx
      obtain ⟨rfl, rfl, rfl, rfl⟩ := hx
      refine ⟨rfl, by simp, ?_⟩
      rintro ⟨e, he⟩
      have := ((commL_some _ _ _).1 he).1
      rw [h2] at this
      cases this
    | some e' =>
      rw [h2] at hx
      simp only [Option.some.injEq, Prod.mk.injEq] at hx
      obtain ⟨rfl, rfl, rfl, rfl⟩ := hx
      refine ⟨rfl, ?_, ?_⟩
      · intro hc
        exact ⟨e', (commL_some _ _ _).2 ⟨h2, of_decide_eq_true hc⟩⟩
      · rintro ⟨e, he⟩
        obtain ⟨a, b⟩ := (commL_some _ _ _).1 he
        rw [h2] at a
        cases a
        exact decide_eq_true b
/-- The four kinds, with all that is asked. -/
theorem shows_all {h : List Ev} (hw : WF h) (q : Nat) (hne : atL h q ≠ (0, 0, 0)) : ∃ (j : Nat) (k : Int) (x1 y1 : Int) (x2 x3 y3 : List UInt8) (f e f' e' : Nat) (c : Bool), q < h.length ∧ j < h.length ∧ atL h q = (k, (q : Int), (j : Int)) ∧ ev h q = (2, x1, x2, x3) ∧ ev h j = (3, y1, x2, y3) ∧
    findL h x1 = some (x1, f, e, true) ∧ findL h y1 = some (y1, f', e', c) ∧
    ((k = 1 ∧ c = false ∧ y3 = x3 ∧ y1 ≠ x1) ∨ (k = 2 ∧ c = true ∧ y3 ≠ x3 ∧ y1 ≠ x1) ∨ (k = 3 ∧ y1 = x1 ∧ j < q ∧ y3 ≠ x3) ∨ (k = 4 ∧ y1 = x1 ∧ q < j ∧ y3 = x3)) := by
  rcases at_shows hw q with h0 | ⟨j, a1, a2, a3, a4, a5, a6, a7⟩
  · exact absurd h0 hne
  · obtain ⟨b1, b2, e, b3, b4⟩ := a3
    obtain ⟨⟨x0, x1, x2, x3⟩, hx⟩ : ∃ x, ev h q = x := ⟨_, rfl⟩
    obtain ⟨⟨y0, y1, y2, y3⟩, hy⟩ : ∃ x, ev h j = x := ⟨_, rfl⟩
    obtain ⟨⟨k, k1, k2⟩, hk⟩ : ∃ x, atL h q = x := ⟨_, rfl⟩
    obtain ⟨f, hf⟩ := comm_find h _ _ b3
    obtain ⟨⟨t', f', e', c⟩, hf'⟩ := find_has h j a4
    obtain ⟨c1, c2⟩ := find_is hf'
    rw [hx] at b2 b3 a6 a7 hf
    rw [hy] at a5 a6 a7 hf' c1 c2
    rw [hk] at a1 a2 a7
    simp only at a1 a2 a5 a6 a7 b2 b3 hf hf' c1 c2
    subst a1 a2 a5 b2 a6 c1
    refine ⟨j, k, x1, t', y2, x3, y3, f, e, f', e', c, b1, a4, hk, hx, hy, hf, hf', ?_⟩
    rcases a7 with ⟨p1, p2, p3, p4⟩ | ⟨p1, p2, p3, p4⟩ | ⟨p1, p2, p3, p4⟩ | ⟨p1, p2, p3, p4⟩
    · left
      refine ⟨p1, ?_, p3, p4⟩
      cases c with
      | false => rfl
      | true => obtain ⟨e, he⟩ := c2.1 rfl; rw [p2] at he; cases he
    · right; left; exact ⟨p1, c2.2 p2, p3, p4⟩
    · right; right; left; exact ⟨p1, p2, p3, p4⟩
    · right; right; right; exact ⟨p1, p2, p3, p4⟩
end Go.Proofs.Ytljgflgfcbmgiaa
