/-
  What the walk of cartoucheref02.Block keeps: rows of words; the words of a round in its order: of no program.
-/
import Derived.Test.YthdikknjabdfeaaDoorBlockL
namespace Go.Proofs.YthdikknjabdfeaaDoor
open Go.RowKit
set_option linter.unusedVariables false
/-- Four rows that the walk keeps, of types s (16 words) and t (8 words). -/
structure Q5 (s t : TypeId) (w0 wa : World) (gv gm gH gZ : Nat) (V M H : List Int) : Prop where
  v : Row wa gv s V
  m : Row wa gm s M
  h : Row wa gH t H
  z : Row wa gZ t Z8
  b : Below w0.heap.size w0 wa
theorem Q5.below {s t : TypeId} {w0 wa wb : World} {gv gm gH gZ : Nat} {V M H : List Int} (q : Q5 s t w0 wa gv gm gH gZ V M H) (hb : Below wa.heap.size wa wb) : Q5 s t w0 wb gv gm gH gZ V M H :=
  ⟨q.v.below hb, q.m.below hb, q.h.below hb, q.z.below hb, q.b.trans (hb.mono q.b.size)⟩
theorem Q5.alloc {s t : TypeId} {w0 wa : World} {gv gm gH gZ : Nat} {V M H : List Int} (q : Q5 s t w0 wa gv gm gH gZ V M H) (o : Obj) : Q5 s t w0 (wa.alloc o) gv gm gH gZ V M H :=
  ⟨q.v.alloc o, q.m.alloc o, q.h.alloc o, q.z.alloc o, q.b.alloc q.b.size o⟩
theorem Q5.setV {s t : TypeId} {w0 wa : World} {gv gm gH gZ : Nat} {V M H : List Int} (q : Q5 s t w0 wa gv gm gH gZ V M H) (V' : List Int) (h1 : gm ≠ gv) (h2 : gH ≠ gv) (h3 : gZ ≠ gv) (h4 : w0.heap.size ≤ gv) : Q5 s t w0 (wa.setRow gv (wv V')) gv gm gH gZ V' M H :=
  ⟨q.v.setRow V', q.m.setRow_other _ _ h1, q.h.setRow_other _ _ h2, q.z.setRow_other _ _ h3, below_setRow q.b h4 _⟩
theorem Q5.other {s t : TypeId} {w0 wa : World} {gv gm gH gZ : Nat} {V M H : List Int} (q : Q5 s t w0 wa gv gm gH gZ V M H) (g i : Nat) (x : Value) (h0 : gv ≠ g) (h1 : gm ≠ g) (h2 : gH ≠ g) (h3 : gZ ≠ g) (h4 : w0.heap.size ≤ g) : Q5 s t w0 (wa.setCell ⟨g, i, none⟩ x) gv gm gH gZ V M H :=
  ⟨q.v.other _ _ _ h0, q.m.other _ _ _ h1, q.h.other _ _ _ h2, q.z.other _ _ _ h3, q.b.setCell (by simpa using h4) _⟩
/-- A round's words of the block in its order, as far as they are laid. -/
def wl (M : List Int) (s : Nat → Nat) (k : Nat) : List Int := (List.range 16).map fun i => if i < k then at_ M (s i) else 0
theorem wl_len (M : List Int) (s : Nat → Nat) (k : Nat) : (wl M s k).length = 16 := by simp [wl]
theorem wl_set (M : List Int) (s : Nat → Nat) (k : Nat) : (wl M s k).set k (at_ M (s k)) = wl M s (k + 1) := by
  apply List.ext_getElem
  · simp [wl]
  · intro i h1 h2
    simp only [List.getElem_set, wl, List.getElem_map, List.getElem_range]
    by_cases h : k = i
    · subst h; simp
    · rw [if_neg h]
      by_cases h3 : i < k
      · rw [if_pos h3, if_pos (by omega)]
      · rw [if_neg h3, if_neg (by omega)]
theorem wl_at (M : List Int) (s : Nat → Nat) (i : Nat) (hi : i < 16) : at_ (wl M s 16) i = at_ M (s i) := by
  rw [← at_eq (wl M s 16) i (by rw [wl_len]; exact hi)]
  simp [wl, hi]
theorem wl_zero (M : List Int) (s : Nat → Nat) : wl M s 0 = Z16 := by
  unfold wl Z16
  simp
  rfl
theorem sp_zero (H : List Int) : sp H 0 = Z16 := by
  unfold sp Z16
  simp
  rfl
theorem rk_step (M V : List Int) (s : Nat → Nat) (k : Nat) (Vp : List Int) (h : rk M V s k = Vp) : rk M V s (k + 1) = mixL Vp (qa k 0) (qa k 1) (qa k 2) (qa k 3) (at_ M (s (2 * k))) (at_ M (s (2 * k + 1))) := by rw [← h]; rfl
theorem sg_lt (r i : Nat) (hr : r < 10) (hi : i < 16) : sg r i < 16 := by
  have h : ∀ r, r < 10 → ∀ i, i < 16 → sg r i < 16 := by decide +kernel
  exact h r hr i hi
theorem ordL_len (r : Nat) (hr : r < 10) : (ordL r).length = 16 := by
  have h : ∀ r, r < 10 → (ordL r).length = 16 := by decide +kernel
  exact h r hr
theorem ordL_get (r i : Nat) (hr : r < 10) (h : i < (ordL r).length) : (ordL r)[i]'h = fig (sg r i) := by
  have hi : i < 16 := by rw [ordL_len r hr] at h; exact h
  have h1 : ∀ r, r < 10 → ∀ i, i < 16 → (ordL r)[i]? = some (fig (sg r i)) := by decide +kernel
  have h2 := h1 r hr i hi
  rw [List.getElem?_eq_getElem h] at h2
  exact Option.some.inj h2
end Go.Proofs.YthdikknjabdfeaaDoor
