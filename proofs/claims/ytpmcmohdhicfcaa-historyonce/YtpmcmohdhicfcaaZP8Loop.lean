/-
  What loops over the living events keep: a value's box, a row's box and the row, a map of numbers, the slice's box.
-/
import Derived.Test.YtpmcmohdhicfcaaZP8Living
namespace Go.Proofs.Ytpmcmohdhicfcaa
set_option maxRecDepth 100000
open Go.RowKit Go.Shelf Go.Maps
set_option linter.unusedVariables false
theorem owns_turn {W W' : World} {row : Option Nat} {B e k n : Nat} {v : Value} {xs : List Value} (h : W.ownsRow B e k v n xs) (hg : W.grownBy W' row) (hr : ∀ r, row = some r → ∃ o : Obj, W.heap[r]? = some o ∧ o.isCells = false) : W'.ownsRow B e k v n xs := by
  refine h.kept hg ?_
  rcases h.2 with ⟨rfl, _⟩ | ⟨g, cap, cur, rfl, _, hgb, _⟩
  · exact .inl rfl
  · refine .inr (fun e => ?_)
    obtain ⟨o, ho, hc⟩ := hr g (by rw [← e]; rfl)
    rw [hgb] at ho
    cases ho
    cases hc
theorem keeps_row {W W' : World} {B e k n : Nat} {v : Value} {xs : List Value} (h : W.ownsRow B e k v n xs) (hg : W.grownBy W' v.ownBlock) : KeepsOthers W W' :=
  KeepsOthers.of_grownBy hg (fun j o ej hj => by
    rcases h.2 with ⟨rfl, _⟩ | ⟨g, cap, cur, rfl, _, hgb, _⟩
    · simp [Value.ownBlock] at ej
    · obtain rfl : g = j := by simpa [Value.ownBlock] using ej
      rw [hgb] at hj
      cases hj
      rfl)
structure ZSt (w : World) (t0 : TypeId) (v0 : Value) (t1 e k : Nat) (sl v : Value) (m : Nat) (f : Int → Option Int) (n : Nat) (xs : List Value) (W : World) : Prop where
  below : Below w.heap.size w W
  size : w.heap.size + 1 + 1 + 1 + 1 + 1 ≤ W.heap.size
  b0 : Boxed W (w.heap.size) t0 v0
  bv : Boxed W (w.heap.size + 1) t1 v
  bm : IMap W (w.heap.size + 1 + 1) m f
  bb : Boxed W (w.heap.size + 1 + 1 + 1) 62 (.map (some (w.heap.size + 1 + 1)))
  be : Boxed W (w.heap.size + 1 + 1 + 1 + 1) 22 sl
  row : W.ownsRow w.heap.size e k v n xs
  far : ∀ g, v.ownBlock = some g → w.heap.size + 1 + 1 + 1 + 1 + 1 + 1 + 1 + 1 + 1 + 1 + 1 ≤ g
section
variable {w : World} {t0 : TypeId} {v0 : Value} {t1 e k : Nat} {sl v : Value} {m : Nat} {f : Int → Option Int} {n : Nat} {xs : List Value} {W W' : World} {row : Option Nat}
theorem ZSt.turn (h : ZSt w t0 v0 t1 e k sl v m f n xs W) (hg : W.grownBy W' row) (hr : ∀ r, row = some r → w.heap.size + 1 + 1 + 1 + 1 + 1 ≤ r ∧ ∃ o : Obj, W.heap[r]? = some o ∧ o.isCells = false) : ZSt w t0 v0 t1 e k sl v m f n xs W' := by
  have o : ∀ j, j < w.heap.size + 1 + 1 + 1 + 1 + 1 → some j ≠ row := fun j hj e => by have := (hr j e.symm).1; omega
  exact ⟨h.below.grown hg (by have := h.size; omega) (fun r e => by have := (hr r e).1; omega), Nat.le_trans h.size hg.size, h.b0.kept hg (o _ (by omega)), h.bv.kept hg (o _ (by omega)), h.bm.kept hg (o _ (by omega)), h.bb.kept hg (o _ (by omega)), h.be.kept hg (o _ (by omega)), owns_turn h.row hg (fun r e => (hr r e).2), h.far⟩
theorem ZSt.bel (h : ZSt w t0 v0 t1 e k sl v m f n xs W) (hb : Below W.heap.size W W') : ZSt w t0 v0 t1 e k sl v m f n xs W' := h.turn (grown_below8 none hb) (fun r e => by cases e)
theorem ZSt.own (w : World) (t0 : TypeId) (v0 : Value) (t1 e k : Nat) (sl v : Value) (m : Nat) (f : Int → Option Int) (n : Nat) (xs : List Value) {B : Nat} (hB : w.heap.size + 1 + 1 + 1 + 1 + 1 ≤ B) {row : Option Nat} (h : ZSt w t0 v0 t1 e k sl v m f n xs W) (hg : W.grownBy W' row) (hr : ∀ r, row = some r → B ≤ r ∧ ∃ o : Obj, W.heap[r]? = some o ∧ o.isCells = false) : ZSt w t0 v0 t1 e k sl v m f n xs W' := h.turn hg (fun r e => ⟨Nat.le_trans hB (hr r e).1, (hr r e).2⟩)
theorem ZSt.map {m' : Nat} {f' : Int → Option Int} (h : ZSt w t0 v0 t1 e k sl v m f n xs W) (hg : W.grownBy W' (some (w.heap.size + 1 + 1))) (hf : IMap W' (w.heap.size + 1 + 1) m' f') : ZSt w t0 v0 t1 e k sl v m' f' n xs W' := by
  have o : ∀ j, j ≠ w.heap.size + 1 + 1 → some j ≠ some (w.heap.size + 1 + 1) := fun j hj e => hj (Option.some.inj e)
  refine ⟨h.below.grown hg (by have := h.size; omega) (fun r e => by cases e; omega), Nat.le_trans h.size hg.size, h.b0.kept hg (o _ (by omega)), h.bv.kept hg (o _ (by omega)), hf, h.bb.kept hg (o _ (by omega)), h.be.kept hg (o _ (by omega)), h.row.kept hg ?_, h.far⟩
  cases hv : v.ownBlock with
  | none => exact .inl rfl
  | some g => exact .inr (fun e => by have := h.far g hv; have := Option.some.inj e; omega)
theorem ZSt.keep (h : ZSt w t0 v0 t1 e k sl v m f n xs W) {m' : Nat} {f' : Int → Option Int} (hm : m ≤ m') (hf : f' = f) : ZSt w t0 v0 t1 e k sl v m' f' n xs W := by
  rw [hf]
  exact ⟨h.below, h.size, h.b0, h.bv, h.bm.mono hm, h.bb, h.be, h.row, h.far⟩
/-- One more in the row, and its box. -/
theorem ZSt.app {v' : Value} {n' : Nat} {ys : List Value} {tmp : Obj} (h : ZSt w t0 v0 t1 e k sl v m f n xs W) (hs : w.heap.size + 1 + 1 + 1 + 1 + 1 + 1 + 1 + 1 + 1 + 1 + 1 ≤ W.heap.size) (hown : W'.ownsRow w.heap.size e k v' n' ys) (hg : (W.alloc tmp).grownBy W' v.ownBlock) (hat : v'.ownBlock = v.ownBlock ∨ v'.ownBlock = some (W.heap.size + 1)) :
    ZSt w t0 v0 t1 e k sl v' m f n' ys (W'.setCell ⟨w.heap.size + 1, 0, none⟩ v') := by
  have hfar : ∀ g, v'.ownBlock = some g → w.heap.size + 1 + 1 + 1 + 1 + 1 + 1 + 1 + 1 + 1 + 1 + 1 ≤ g := fun g hv => by
    rcases hat with e | e
    · exact h.far g (by rw [← e]; exact hv)
    · rw [hv] at e
      have := Option.some.inj e
      omega
  have o : ∀ j, j < w.heap.size + 1 + 1 + 1 + 1 + 1 → some j ≠ v.ownBlock := fun j hj e => by have := h.far j e.symm; omega
  have hsz := hg.size
  rw [World.size_alloc] at hsz
  have hb : Below w.heap.size w W' := (h.below.alloc h.below.size _).grown hg (by simp; have := h.size; omega) (fun r e => by have := h.far r e; omega)
  refine ⟨hb.setCell (p := ⟨w.heap.size + 1, 0, none⟩) (by first | (simp; done) | (simp; omega)) _, by simp; omega, ((h.b0.alloc _).kept hg (o _ (by omega))).other (by omega) _, ((h.bv.alloc _).kept hg (o _ (by omega))).set _, ?_, ((h.bb.alloc _).kept hg (o _ (by omega))).other (by omega) _, ((h.be.alloc _).kept hg (o _ (by omega))).other (by omega) _, owns_keep7 (g := w.heap.size + 1) (j := 0) hown _ (fun e => by have := hfar _ e.symm; omega), hfar⟩
  refine IMap.same (W := W') ((h.bm.kept (World.grownBy_alloc _ tmp none) (by simp)).kept hg (o _ (by omega))) ?_
  exact Below.heap_setCell _ _ _ _ (by simp)
end
theorem kpL_grown {n b A : Nat} {W W' : World} {row : Option Nat} (hn : n ≤ W.heap.size) (hb : b < W.heap.size) (hA : A + 1 + 1 + 1 + 1 ≤ W.heap.size) (hg : W.grownBy W' row) (hr : ∀ r, row = some r → n ≤ r ∧ r ≠ b ∧ (r < A ∨ A + 1 + 1 + 1 + 1 ≤ r)) : KpL n b A W W' :=
  ⟨(Below.refl n W).grown hg hn (fun r e => (hr r e).1), hg.block b hb (fun e => (hr b e.symm).2.1 rfl), fun j h1 h2 => hg.block j (by omega) (fun e => by have := (hr j e.symm).2.2; omega)⟩
theorem kpL_bel {n b A : Nat} {W W' : World} (hn : n ≤ W.heap.size) (hb : b < W.heap.size) (hA : A + 1 + 1 + 1 + 1 ≤ W.heap.size) (h : Below W.heap.size W W') : KpL n b A W W' := kpL_grown hn hb hA (grown_below8 none h) (fun r e => by cases e)
theorem kpL_put {n b A l : Nat} {W : World} (hn : n ≤ l) (hb : b < l) (hl : l < A) (o : Loop) (h : W.heap[l]? = some (.loop o)) (o' : Loop) : KpL n b A W (W.putObj l (.loop o')) := by
  have hlt : l < W.heap.size := (Array.getElem?_eq_some_iff.1 h).1
  refine ⟨(Below.refl n W).grown (grownBy_putObj' W l _) (by omega) (fun r e => by cases e; exact hn), World.putObj_heap_other (by omega), fun j h1 h2 => World.putObj_heap_other (by omega)⟩
end Go.Proofs.Ytpmcmohdhicfcaa
