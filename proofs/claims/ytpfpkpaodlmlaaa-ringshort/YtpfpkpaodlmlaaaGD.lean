/-
  Small facts for rounds of a range over a function: of no program.
  What a loop over events is handed, and what its rounds keep: of no program.
  Maps and sets that a call has made, with whole numbers or texts for keys: of no program but for the types.
-/
import Derived.Test.YtpfpkpaodlmlaaaGC
import Derived.Test.YtpfpkpaodlmlaaaGB
import Derived.RangeFuncNested
import Derived.RangeFuncBound
import Derived.RangeFuncCalls
import Derived.RangeFuncLeaves
import Derived.RangeFuncBox
import Derived.Shelf.Abstract
import Derived.Shelf.RegionOpen
import Derived.OwnWalkIn
import Derived.TacticsInMore
import Derived.LoopNIn
import Derived.LoopIn
import Derived.Test.YtpfpkpaodlmlaaaGA
import Derived.Test.YtpfpkpaodlmlaaaProg
import Derived.Maps.OwnSet
import Derived.Maps.OwnOps
import Derived.Maps.OwnIn
namespace Go.Proofs.Ytpfpkpaodlmlaaa
set_option maxRecDepth 100000
open Go.RowKit Go.Shelf
set_option linter.unusedVariables false
theorem cell_al {W : World} {a : Addr} {v : Value} (o : Obj) (h : W.cell? a = some v) : (W.alloc o).cell? a = some v := cell_kept h (World.grownBy_alloc W o none) (fun r e => by cases e)
theorem owns_low {w : World} {B B' e k n : Nat} {v : Value} {xs : List Value} (h : w.ownsRow B e k v n xs) (hb : B' ≤ B) : w.ownsRow B' e k v n xs := by
  obtain ⟨h1, h2⟩ := h
  refine ⟨h1, ?_⟩
  rcases h2 with h2 | ⟨g, cap, cur, hv, hbg, r⟩
  · exact .inl h2
  · exact .inr ⟨g, cap, cur, hv, by omega, r⟩
/-- What leaves all that lay leaves all that is no cells. -/
theorem keeps_of_below {W W' : World} (h : Below W.heap.size W W') : KeepsOthers W W' :=
  ⟨h.size, fun k o hk _ => (h.block k (Array.getElem?_eq_some_iff.1 hk).1).trans hk⟩
theorem boxed_below {W W' : World} {B t : Nat} {v : Value} (h : Boxed W B t v) (hb : Below W.heap.size W W') : Boxed W' B t v := (hb.block B h.lt).trans h
/-- A block of cells lies on where only what is no cells is turned. -/
theorem block_kept {W W' : World} {row : Option Nat} {B t : Nat} {c : Array Value} (h : W.heap[B]? = some (.cells c t (0, 0))) (hg : W.grownBy W' row) (hr : ∀ r, row = some r → ∃ o : Obj, W.heap[r]? = some o ∧ o.isCells = false) : W'.heap[B]? = some (.cells c t (0, 0)) :=
  (hg.block B (Array.getElem?_eq_some_iff.1 h).1 (fun e => by obtain ⟨o, ho, hc⟩ := hr B e.symm; rw [h] at ho; cases ho; cases hc)).trans h
/-- A block of cells of another type is no owned row's. -/
theorem block_not_row {W : World} {B t e : Nat} {c : Array Value} (h : W.heap[B]? = some (.cells c t (0, 0))) (hte : t ≠ e) {base size k : Nat} {v : Value} {xs : List Value} (hr : W.ownsRow base e size v k xs) : some B ≠ v.ownBlock := by
  rcases hr.2 with ⟨rfl, _⟩ | ⟨g, cap, cur, rfl, _, hgb, _⟩
  · simp [Value.ownBlock]
  · intro e'
    obtain rfl : B = g := by simpa [Value.ownBlock] using e'
    rw [h] at hgb
    simp at hgb
    exact hte hgb.2
theorem cell_of_block {W : World} {B t : Nat} {c : Array Value} {f : Nat × Nat} (h : W.heap[B]? = some (.cells c t f)) (j : Nat) : W.cell? ⟨B, j, none⟩ = c[j]? := by simp [World.cell?, h]
end Go.Proofs.Ytpfpkpaodlmlaaa
namespace Go.Proofs.Ytpfpkpaodlmlaaa
set_option maxRecDepth 100000
open Go.RowKit Go.Shelf
set_option linter.unusedVariables false
/-- A place and its event, as they are handed to a round. -/
abbrev ixV (h : List Ev) (i : Fin h.length) : Array Value := #[.int .i64 (i.val : Int), evW h[i.val]]
/-- What a round keeps: all that lay ahead, and the iterator's own box. -/
def KpE (n b : Nat) (W W' : World) : Prop := Below n W W' ∧ W'.heap[b]? = W.heap[b]?
theorem kpE_t {n b : Nat} {A B C : World} (h : KpE n b A B) (k : KpE n b B C) : KpE n b A C := ⟨h.1.trans k.1, k.2.trans h.2⟩
theorem kpE_b {n b : Nat} {w : World} (hn : n ≤ w.heap.size) (hb : b < w.heap.size) (W : World) (l : Nat) (o o' : Obj) (hl : w.heap.size ≤ l) (h : W.heap[l]? = some o) (h1 : o.isCells = false) (h2 : o.isWalk = false) : KpE n b W (W.putObj l o') :=
  ⟨belowK_b hn W l o o' hl h h1 h2, World.putObj_heap_other (by omega)⟩
theorem boxed_below7 {W W' : World} {B : Nat} {t : TypeId} {v : Value} (h : Boxed W B t v) (b : Below W.heap.size W W') : Boxed W' B t v := (b.block B h.lt).trans h
end Go.Proofs.Ytpfpkpaodlmlaaa
namespace Go.Proofs.Ytpfpkpaodlmlaaa
set_option maxRecDepth 100000
open Go.RowKit Go.Maps
set_option linter.unusedVariables false
theorem grown_below8 {a b : World} (x : Option Nat) (h : Below a.heap.size a b) : a.grownBy b x := ⟨h.os, h.tape, h.output, h.size, fun i hi _ => h.block i hi⟩
theorem law8i : Keyed Try.prog 3 := int_keyed Try.underlying3
theorem law8s : Keyed Try.prog 9 := string_keyed Try.underlying9
theorem zero8i (w : World) : (zeroValue 3).run Try.prog w = .ok (.int .i64 0) w := by kernel_rfl
abbrev I64 (t : Int) : Prop := -9223372036854775808 ≤ t ∧ t ≤ 9223372036854775807
theorem key8i {t : Int} (ht : I64 t) : keyOf Try.prog 3 (.int .i64 t) = some (.int .i64 t) := keyOf_int_mk Try.underlying3 (WalkArith.wf_i64 ht)
theorem key8s {t : List UInt8} (ht : t.length ≤ 9223372036854775807) : keyOf Try.prog 9 (.string ⟨t.toArray⟩) = some (.string t) := by
  have := Go.WideMaps.keyOf_string_mk (P := Try.prog) (k := 9) (s := ⟨t.toArray⟩) Try.underlying9 (by rw [ba_size]; unfold maxLen; omega)
  simpa using this
/-- Numbers by numbers. -/
def IMap (W : World) (b n : Nat) (f : Int → Option Int) : Prop :=
  ∃ D : DataW Unit, W.ownsMap Try.prog 3 (plainElem Try.prog 3) b n D ∧ ∀ t : Int, Maps.has D (.int .i64 t) = (f t).isSome ∧ ∀ k, f t = some k → D.atKey (.int .i64 t) (.lit (.int .i64 0)) = .lit (.int .i64 k)
/-- A set of numbers; of texts. -/
def ISet (W : World) (b n : Nat) (p : Int → Bool) : Prop :=
  ∃ D : DataW Unit, W.ownsMap Try.prog 3 unitElem b n D ∧ ∀ t : Int, Maps.has D (.int .i64 t) = p t
def TSet (W : World) (b n : Nat) (p : List UInt8 → Bool) : Prop :=
  ∃ D : DataW Unit, W.ownsMap Try.prog 9 unitElem b n D ∧ ∀ t : List UInt8, Maps.has D (.string t) = p t
section
variable {W W' : World} {b n m B : Nat} {row : Option Nat}
theorem IMap.kept {f : Int → Option Int} (h : IMap W b n f) (hg : W.grownBy W' row) (hne : some b ≠ row) : IMap W' b n f := by
  obtain ⟨D, h1, h2⟩ := h; exact ⟨D, h1.kept hg hne, h2⟩
theorem ISet.kept {p : Int → Bool} (h : ISet W b n p) (hg : W.grownBy W' row) (hne : some b ≠ row) : ISet W' b n p := by
  obtain ⟨D, h1, h2⟩ := h; exact ⟨D, h1.kept hg hne, h2⟩
theorem TSet.kept {p : List UInt8 → Bool} (h : TSet W b n p) (hg : W.grownBy W' row) (hne : some b ≠ row) : TSet W' b n p := by
  obtain ⟨D, h1, h2⟩ := h; exact ⟨D, h1.kept hg hne, h2⟩
theorem IMap.same {f : Int → Option Int} (h : IMap W b n f) (hb : W'.heap[b]? = W.heap[b]?) : IMap W' b n f := by
  obtain ⟨D, ⟨es, clock, h1, h2⟩, h3⟩ := h; exact ⟨D, ⟨es, clock, hb.trans h1, h2⟩, h3⟩
theorem ISet.same {p : Int → Bool} (h : ISet W b n p) (hb : W'.heap[b]? = W.heap[b]?) : ISet W' b n p := by
  obtain ⟨D, ⟨es, clock, h1, h2⟩, h3⟩ := h; exact ⟨D, ⟨es, clock, hb.trans h1, h2⟩, h3⟩
theorem TSet.same {p : List UInt8 → Bool} (h : TSet W b n p) (hb : W'.heap[b]? = W.heap[b]?) : TSet W' b n p := by
  obtain ⟨D, ⟨es, clock, h1, h2⟩, h3⟩ := h; exact ⟨D, ⟨es, clock, hb.trans h1, h2⟩, h3⟩
theorem IMap.bel {f : Int → Option Int} (h : IMap W b n f) (hb : Below B W W') (hlt : b < B) : IMap W' b n f := h.same (hb.block b hlt)
theorem ISet.bel {p : Int → Bool} (h : ISet W b n p) (hb : Below B W W') (hlt : b < B) : ISet W' b n p := h.same (hb.block b hlt)
theorem TSet.bel {p : List UInt8 → Bool} (h : TSet W b n p) (hb : Below B W W') (hlt : b < B) : TSet W' b n p := h.same (hb.block b hlt)
theorem IMap.lt {f : Int → Option Int} (h : IMap W b n f) : b < W.heap.size := by obtain ⟨D, h1, h2⟩ := h; exact h1.lt
theorem ISet.lt {p : Int → Bool} (h : ISet W b n p) : b < W.heap.size := by obtain ⟨D, h1, h2⟩ := h; exact h1.lt
theorem TSet.lt {p : List UInt8 → Bool} (h : TSet W b n p) : b < W.heap.size := by obtain ⟨D, h1, h2⟩ := h; exact h1.lt
theorem IMap.mono {f : Int → Option Int} (h : IMap W b n f) (hn : n ≤ m) : IMap W b m f := by obtain ⟨D, h1, h2⟩ := h; exact ⟨D, h1.mono hn, h2⟩
theorem ISet.mono {p : Int → Bool} (h : ISet W b n p) (hn : n ≤ m) : ISet W b m p := by obtain ⟨D, h1, h2⟩ := h; exact ⟨D, h1.mono hn, h2⟩
theorem TSet.mono {p : List UInt8 → Bool} (h : TSet W b n p) (hn : n ≤ m) : TSet W b m p := by obtain ⟨D, h1, h2⟩ := h; exact ⟨D, h1.mono hn, h2⟩
theorem IMap.made (w : World) : IMap (w.alloc (.map #[] 0)) w.heap.size 0 (fun _ => none) := ⟨.map [], World.ownsMap_made w _ _ _, fun t => ⟨rfl, fun k h => by cases h⟩⟩
theorem ISet.made (w : World) : ISet (w.alloc (.map #[] 0)) w.heap.size 0 (fun _ => false) := ⟨.map [], World.ownsMap_made w _ _ _, fun t => rfl⟩
theorem TSet.made (w : World) : TSet (w.alloc (.map #[] 0)) w.heap.size 0 (fun _ => false) := ⟨.map [], World.ownsMap_made w _ _ _, fun t => rfl⟩
/-- What is known behind a store. -/
def updI (f : Int → Option Int) (t k : Int) : Int → Option Int := fun u => if u = t then some k else f u
theorem IMap.put {f : Int → Option Int} {D : DataW Unit} (hd : ∀ t : Int, Maps.has D (.int .i64 t) = (f t).isSome ∧ ∀ k, f t = some k → D.atKey (.int .i64 t) (.lit (.int .i64 0)) = .lit (.int .i64 k)) (hm : IsMap D) (t k : Int)
    (h : W.ownsMap Try.prog 3 (plainElem Try.prog 3) b n (D.put (.int .i64 t) (.lit (.int .i64 k)))) : IMap W b n (updI f t k) := by
  refine ⟨_, h, fun u => ?_⟩
  unfold updI
  by_cases hu : u = t
  · subst hu
    rw [if_pos rfl]
    refine ⟨?_, fun c hc => ?_⟩
    · rw [has_put_same hm (show WideAt.IsKeyLit (.int .i64 u) from trivial)]; rfl
    · rw [atKey_put_same hm (show WideAt.IsKeyLit (.int .i64 u) from trivial)]
      simp at hc
      rw [hc]
  · rw [if_neg hu]
    have hne : (Lit.int .i64 u) ≠ Lit.int .i64 t := fun h => hu (by cases h; rfl)
    refine ⟨?_, fun c hc => ?_⟩
    · rw [has_put_other hne]; exact (hd u).1
    · rw [atKey_put_other hne]; exact (hd u).2 c hc
theorem ISet.put {p : Int → Bool} {D : DataW Unit} (hd : ∀ t : Int, Maps.has D (.int .i64 t) = p t) (hm : IsMap D) (t : Int) (h : W.ownsMap Try.prog 3 unitElem b n (D.put (.int .i64 t) (.agg []))) : ISet W b n (fun u => p u || decide (t = u)) := by
  refine ⟨_, h, fun u => ?_⟩
  by_cases hu : u = t
  · subst hu
    rw [has_put_same hm (show WideAt.IsKeyLit (.int .i64 u) from trivial)]
    simp
  · have hne : (Lit.int .i64 u) ≠ Lit.int .i64 t := fun h => hu (by cases h; rfl)
    rw [has_put_other hne, hd u]
    show p u = (p u || decide (t = u))
    rw [decide_eq_false (fun e : t = u => hu e.symm), Bool.or_false]
theorem TSet.put {p : List UInt8 → Bool} {D : DataW Unit} (hd : ∀ t : List UInt8, Maps.has D (.string t) = p t) (hm : IsMap D) (t : List UInt8) (h : W.ownsMap Try.prog 9 unitElem b n (D.put (.string t) (.agg []))) : TSet W b n (fun u => p u || decide (t = u)) := by
  refine ⟨_, h, fun u => ?_⟩
  by_cases hu : u = t
  · subst hu
    rw [has_put_same hm (show WideAt.IsKeyLit (.string u) from trivial)]
    simp
  · have hne : (Lit.string u) ≠ Lit.string t := fun h => hu (by cases h; rfl)
    rw [has_put_other hne, hd u]
    show p u = (p u || decide (t = u))
    rw [decide_eq_false (fun e : t = u => hu e.symm), Bool.or_false]
end
end Go.Proofs.Ytpfpkpaodlmlaaa
