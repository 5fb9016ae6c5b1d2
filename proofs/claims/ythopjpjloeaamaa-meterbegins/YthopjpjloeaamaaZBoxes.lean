/-
  Structs in a block of their own, read, stored and kept; short words for regions that draw: of no program.
-/
import Derived.Test.YthopjpjloeaamaaGH
import Derived.Test.YthopjpjloeaamaaGC
namespace Go.Proofs.Ythopjpjloeaamaa
set_option maxRecDepth 100000
open Go.RowKit
set_option linter.unusedVariables false
/-- Block g is a struct's. -/
def SBox (w : World) (g : Nat) (t : TypeId) (cs : Array Value) : Prop := w.heap[g]? = some (.cells cs t (0, 0))
theorem SBox.lt {w : World} {g : Nat} {t : TypeId} {cs : Array Value} (h : SBox w g t cs) : g < w.heap.size := (Array.getElem?_eq_some_iff.1 h).1
theorem SBox.cell {w : World} {g : Nat} {t : TypeId} {cs : Array Value} (h : SBox w g t cs) (j : Nat) (u : Value) (hu : cs[j]? = some u) : w.cell? ⟨g, j, none⟩ = some u := by
  unfold SBox at h
  simp [World.cell?, h, hu]
theorem SBox.frozen {w : World} {g : Nat} {t : TypeId} {cs : Array Value} (h : SBox w g t cs) (j : Nat) : w.frozen? ⟨g, j, none⟩ = false := by
  unfold SBox at h
  simp [World.frozen?, h]
theorem SBox.set {w : World} {g : Nat} {t : TypeId} {cs : Array Value} (h : SBox w g t cs) (j : Nat) (v : Value) : SBox (w.setCell ⟨g, j, none⟩ v) g t (cs.setIfInBounds j v) := by
  unfold SBox at h ⊢
  simp [World.setCell, Array.getElem?_modify, h]
theorem SBox.other {w : World} {g : Nat} {t : TypeId} {cs : Array Value} (h : SBox w g t cs) (k j : Nat) (v : Value) (hne : k ≠ g) : SBox (w.setCell ⟨k, j, none⟩ v) g t cs := by
  unfold SBox at h ⊢
  simp [World.setCell, Array.getElem?_modify, h, hne]
theorem SBox.below {w w' : World} {g : Nat} {t : TypeId} {cs : Array Value} (h : SBox w g t cs) (b : Below w.heap.size w w') : SBox w' g t cs := (b.block g h.lt).trans h
theorem SBox.alloc {w : World} {g : Nat} {t : TypeId} {cs : Array Value} (h : SBox w g t cs) (o : Obj) : SBox (w.alloc o) g t cs := h.below ((Below.refl _ w).alloc (Nat.le_refl _) o)
theorem SBox.new (w : World) (t : TypeId) (cs : Array Value) : SBox (w.alloc (.cells cs t)) w.heap.size t cs := by
  show (w.heap.push (.cells cs t))[w.heap.size]? = _
  simp
theorem SBox.drew {w : World} {g : Nat} {t : TypeId} {cs : Array Value} (h : SBox w g t cs) : SBox w.drew g t cs := h
/-- All cells of a struct stored, one behind the other. -/
theorem SBox.put4 {w : World} {g : Nat} {t : TypeId} {p q r s : Value} (h : SBox w g t #[p, q, r, s]) (a b c d : Value) : SBox ((((w.setCell ⟨g, 0, none⟩ a).setCell ⟨g, 1, none⟩ b).setCell ⟨g, 2, none⟩ c).setCell ⟨g, 3, none⟩ d) g t #[a, b, c, d] :=
  (((h.set 0 a).set 1 b).set 2 c).set 3 d
theorem SBox.put4_other {w : World} {g k : Nat} {t : TypeId} {cs : Array Value} (h : SBox w g t cs) (hne : k ≠ g) (a b c d : Value) : SBox ((((w.setCell ⟨k, 0, none⟩ a).setCell ⟨k, 1, none⟩ b).setCell ⟨k, 2, none⟩ c).setCell ⟨k, 3, none⟩ d) g t cs :=
  (((h.other k 0 a hne).other k 1 b hne).other k 2 c hne).other k 3 d hne
theorem bel_put4 {B : Nat} {a w : World} (h : Below B a w) {g : Nat} (hg : B ≤ g) (p q r s : Value) : Below B a ((((w.setCell ⟨g, 0, none⟩ p).setCell ⟨g, 1, none⟩ q).setCell ⟨g, 2, none⟩ r).setCell ⟨g, 3, none⟩ s) :=
  (((h.setCell (p := ⟨g, 0, none⟩) hg p).setCell (p := ⟨g, 1, none⟩) hg q).setCell (p := ⟨g, 2, none⟩) hg r).setCell (p := ⟨g, 3, none⟩) hg s
theorem cell_bel {W W' : World} (b : Below W.heap.size W W') {a : Addr} {v : Value} (h : W.cell? a = some v) : W'.cell? a = some v := by
  have hlt : a.block < W.heap.size := by
    rcases Nat.lt_or_ge a.block W.heap.size with h' | h'
    · exact h'
    · simp [World.cell?, Array.getElem?_eq_none h'] at h
  rw [b.cell hlt]
  exact h
end Go.Proofs.Ythopjpjloeaamaa
