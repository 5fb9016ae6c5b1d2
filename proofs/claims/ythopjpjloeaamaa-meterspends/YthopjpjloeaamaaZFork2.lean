/-
  Forks of a region that draws its order: two or three operations are ready, any of them comes first. Of no program.
-/
import Derived.Test.YthopjpjloeaamaaZTakeD
namespace Go.Proofs.Ythopjpjloeaamaa
set_option maxRecDepth 100000
open Go.RowKit
set_option linter.unusedVariables false
section
variable {P : Program} {md : Region.Mode} {ops : Array Oper} {Q : Exit → Act → World → Prop}
theorem fork2 {C : World → Prop} {d i j : Nat} {o1 o2 : Oper} {f : Nat} {listed : Array Bool} {a : Act} {w : World} (hr : Region.ready md ops listed = [i, j]) (hdl : listed.getD d false = false) (hC : C w) (h1 : ops[i]? = some o1) (h2 : ops[j]? = some o2)
    (k1 : ∀ K : Act → World → Prop, (∀ a w, wpAnyC C d P md ops Q f (listed.setIfInBounds i true) a w → K a w) → wpList P ops (Exit.then K Q) [o1] a w)
    (k2 : ∀ K : Act → World → Prop, (∀ a w, wpAnyC C d P md ops Q f (listed.setIfInBounds j true) a w → K a w) → wpList P ops (Exit.then K Q) [o2] a w) : wpAnyC C d P md ops Q (f + 1) listed a w := by
  refine .inr ⟨hdl, hC, fun h0 => (by rw [hr] at h0; cases h0), fun x hx => ?_⟩
  rw [hr] at hx
  have hx' : x = i ∨ x = j := by simpa using hx
  rcases hx' with rfl | rfl
  · exact wpOp_of_list h1 (k1 _ fun _ _ h => h)
  · exact wpOp_of_list h2 (k2 _ fun _ _ h => h)
theorem fork3 {C : World → Prop} {d i j k : Nat} {o1 o2 o3 : Oper} {f : Nat} {listed : Array Bool} {a : Act} {w : World} (hr : Region.ready md ops listed = [i, j, k]) (hdl : listed.getD d false = false) (hC : C w) (h1 : ops[i]? = some o1) (h2 : ops[j]? = some o2) (h3 : ops[k]? = some o3)
    (k1 : ∀ K : Act → World → Prop, (∀ a w, wpAnyC C d P md ops Q f (listed.setIfInBounds i true) a w → K a w) → wpList P ops (Exit.then K Q) [o1] a w)
    (k2 : ∀ K : Act → World → Prop, (∀ a w, wpAnyC C d P md ops Q f (listed.setIfInBounds j true) a w → K a w) → wpList P ops (Exit.then K Q) [o2] a w)
    (k3 : ∀ K : Act → World → Prop, (∀ a w, wpAnyC C d P md ops Q f (listed.setIfInBounds k true) a w → K a w) → wpList P ops (Exit.then K Q) [o3] a w) : wpAnyC C d P md ops Q (f + 1) listed a w := by
  refine .inr ⟨hdl, hC, fun h0 => (by rw [hr] at h0; cases h0), fun x hx => ?_⟩
  rw [hr] at hx
  have hx' : x = i ∨ x = j ∨ x = k := by simpa using hx
  rcases hx' with rfl | rfl | rfl
  · exact wpOp_of_list h1 (k1 _ fun _ _ h => h)
  · exact wpOp_of_list h2 (k2 _ fun _ _ h => h)
  · exact wpOp_of_list h3 (k3 _ fun _ _ h => h)
end
end Go.Proofs.Ythopjpjloeaamaa
