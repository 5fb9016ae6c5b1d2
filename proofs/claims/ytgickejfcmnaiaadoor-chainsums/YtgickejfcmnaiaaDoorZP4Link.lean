/-
  What chain.linkBy, and the closure that it makes, answer.
-/
import Derived.Test.YtgickejfcmnaiaaDoorZP4Small
import Derived.Test.YtgickejfcmnaiaaDoorZChainN
import Derived.Test.YtgickejfcmnaiaaDoorGH
import Derived.Test.YtgickejfcmnaiaaDoorGC
namespace Go.Proofs.YtgickejfcmnaiaaDoor
set_option maxRecDepth 100000
open Go.RowKit
set_option linter.unusedVariables false
attribute [local go_sem] ba_size
theorem size48 : (Tryd.prog.info? 48).map (·.size) = some 2 := by kernel_rfl
theorem grown_trans {a b c : World} {x : Option Nat} (h : a.grownBy b x) (k : b.grownBy c x) : a.grownBy c x :=
  ⟨k.os.trans h.os, k.tape.trans h.tape, k.output.trans h.output, Nat.le_trans h.size k.size, fun i hi hne => (k.block i (Nat.lt_of_lt_of_le hi h.size) hne).trans (h.block i hi hne)⟩
theorem grown_of_below {a b : World} (x : Option Nat) (h : Below a.heap.size a b) : a.grownBy b x := ⟨h.os, h.tape, h.output, h.size, fun i hi _ => h.block i hi⟩
theorem grown_setRow (w : World) (g : Nat) (cs : Array Value) (x : Option Nat) (hg : w.heap.size ≤ g) : w.grownBy (w.setRow g cs) x := by
  have h := below_setRow (Below.refl w.heap.size w) hg cs
  exact grown_of_below x h
/-- What linkBy leaves: the sum's box, the head's box. -/
def LinkAt (w : World) (e : Ending) (w' : World) : Prop :=
  e = .returned (.func (.func 48) #[] #[.pointer (some ⟨w.heap.size, 0, none⟩), .pointer (some ⟨w.heap.size + 1, 0, none⟩)]) ∧ Boxed w' w.heap.size 50 sumFn ∧ Boxed w' (w.heap.size + 1) 9 (.string ⟨#[]⟩) ∧ Below w.heap.size w w'
theorem plinkBy_any (w : World) : Calls Tryd.prog 40 #[sumFn] w fun e w' => LinkAt w e w' := by
  have h2 := Boxed.new (w.alloc (.cells #[sumFn] 50)) 9 (.string ⟨#[]⟩)
  go_enter Tryd.func40, Tryd.ntmps40
  go_wp2
  go_ret
  refine ⟨rfl, ?_, ?_, ?_⟩
  · exact (Boxed.new w 50 sumFn).alloc _
  · rw [World.size_alloc] at h2; exact h2
  · exact ((Below.refl _ w).alloc (Nat.le_refl _) _).alloc (by simp) _
set_option maxHeartbeats 1000000 in
theorem plink_ok (W : World) (hG : G W) (bS x : Nat) (p b : List UInt8) (hS : Boxed W bS 50 sumFn) (hx : Boxed W x 9 (.string ⟨p.toArray⟩)) (h : ¬ bigB p b) :
    Calls Tryd.prog 48 #[.string ⟨b.toArray⟩, .pointer (some ⟨bS, 0, none⟩), .pointer (some ⟨x, 0, none⟩)] W fun e W' => e = .returned (.tuple #[.agg #[.string ⟨p.toArray⟩, .string ⟨b.toArray⟩], .int .i64 0]) ∧ W.grownBy W' (some x) ∧ Boxed W' x 9 (.string ⟨(sumL (cinL p b)).toArray⟩) := by
  have hg3 := hG.size
  have hSZ := hS.alloc (.cells #[.string ⟨#[]⟩, .string ⟨#[]⟩] 48)
  have hxZ := hx.alloc (.cells #[.string ⟨#[]⟩, .string ⟨#[]⟩] 48)
  have hbZ : Below W.heap.size W (W.alloc (.cells #[.string ⟨#[]⟩, .string ⟨#[]⟩] 48)) := (Below.refl _ W).alloc (Nat.le_refl _) _
  have hrZ := heap_alloc_new W (.cells #[.string ⟨#[]⟩, .string ⟨#[]⟩] 48)
  have c1 := hSZ.cell
  have c2 := hxZ.cell
  have hN := fun w1 h1 => pnextF_any p b (by unfold bigB at h; omega) (by unfold bigB at h; omega) w1 h1
  rw [nextL_is sumL p b h] at hN
  obtain ⟨q, hq⟩ : ∃ q, sumL (cinL p b) = q := ⟨_, rfl⟩
  rw [hq] at hN ⊢
  clear hq
  go_enter Tryd.func48, Tryd.ntmps48
  go_wp2_with fail
  refine (hN _ (hG.below hbZ hg3)).mono ?_
  rintro e w1 ⟨rfl, hb1⟩
  have hx1 : Boxed w1 x 9 (.string ⟨p.toArray⟩) := boxed_below hxZ hb1
  have hr1 : w1.heap[W.heap.size]? = some (.cells #[.string ⟨#[]⟩, .string ⟨#[]⟩] 48 (0, 0)) := (hb1.block _ (Array.getElem?_eq_some_iff.1 hrZ).1).trans hrZ
  have d2 := hx1.cell
  have hz : (Tryd.prog.info? 48).map (·.size) = some 2 := size48
  clear hrZ hSZ hxZ c1 c2 hN
  have hxl := hx.lt
  have hs1 : W.heap.size + 1 ≤ w1.heap.size := by have := hb1.size; rw [World.size_alloc] at this; exact this
  have hx2 := hx1.alloc (.cells #[.string ⟨p.toArray⟩, .string ⟨b.toArray⟩] 48)
  have e2 := hx2.cell
  have e2f := hx2.frozen
  have hs2 : (w1.alloc (.cells #[.string ⟨p.toArray⟩, .string ⟨b.toArray⟩] 48)).heap[W.heap.size]? = some (.cells #[.string ⟨#[]⟩, .string ⟨#[]⟩] 48 (0, 0)) := by
    rw [heap_alloc_old _ _ (by omega)]; exact hr1
  have f0 := cell_of_row _ W.heap.size 0 _ _ _ hs2
  have f1 := cell_of_row _ W.heap.size 1 _ _ _ hs2
  have f2 := frozen_of_row _ W.heap.size 0 _ _ hs2
  have f3 := frozen_of_row _ W.heap.size 1 _ _ hs2
  simp only [List.getElem?_toArray, List.getElem?_cons_zero, List.getElem?_cons_succ] at f0 f1
  have hs3 : ((w1.alloc (.cells #[.string ⟨p.toArray⟩, .string ⟨b.toArray⟩] 48)).setCell ⟨x, 0, none⟩ (.string ⟨q.toArray⟩)).heap[W.heap.size]? = some (.cells #[.string ⟨#[]⟩, .string ⟨#[]⟩] 48 (0, 0)) := by
    rw [heap_setCell_other _ _ _ _ (by show W.heap.size ≠ x; omega)]; exact hs2
  have hx3 : Boxed ((w1.alloc (.cells #[.string ⟨p.toArray⟩, .string ⟨b.toArray⟩] 48)).setCell ⟨x, 0, none⟩ (.string ⟨q.toArray⟩)) x 9 (.string ⟨q.toArray⟩) := hx2.set _
  have hg3' : W.grownBy ((w1.alloc (.cells #[.string ⟨p.toArray⟩, .string ⟨b.toArray⟩] 48)).setCell ⟨x, 0, none⟩ (.string ⟨q.toArray⟩)) (some x) :=
    grown_trans (grown_of_below _ (hbZ.trans (hb1.mono (by simp)))) (grown_trans (World.grownBy_alloc _ _ _) (grownBy_setCell' _ _ _))
  have hne : ¬ W.heap.size = x := by omega
  have hne2 : ¬ x = W.heap.size := by omega
  have hne3 : ¬ w1.heap.size = x := by omega
  have hne4 : ¬ x = w1.heap.size := by omega
  go_wp2_with fail
  refine bodyPost_ret (v := .tuple #[.agg #[.string ⟨p.toArray⟩, .string ⟨b.toArray⟩], .int .i64 0]) (results_row_tmp Tryd.results48 _ _ W.heap.size 48 #[.string ⟨p.toArray⟩, .string ⟨b.toArray⟩] (0, 0) _ rfl ?_ Tryd.underlying48 rfl hz) rfl ⟨rfl, ?_, ?_⟩
  · have k1 := heap_setCell_same _ W.heap.size 0 _ _ (.string ⟨p.toArray⟩) hs3
    exact heap_setCell_same _ W.heap.size 1 _ _ (.string ⟨b.toArray⟩) k1
  · exact ⟨hg3'.os, hg3'.tape, hg3'.output, by simpa using hg3'.size, fun k hk hn => by
      rw [heap_setCell_other _ _ _ _ (by show k ≠ W.heap.size; omega), heap_setCell_other _ _ _ _ (by show k ≠ W.heap.size; omega)]
      exact hg3'.block k hk hn⟩
  · unfold Boxed
    rw [heap_setCell_other _ _ _ _ hne2, heap_setCell_other _ _ _ _ hne2]
    exact hx3
set_option maxHeartbeats 1000000 in
theorem plink_big (W : World) (hG : G W) (bS x : Nat) (p b : List UInt8) (hp : p.length ≤ 9223372036854775807) (hb : b.length ≤ 9223372036854775807) (hS : Boxed W bS 50 sumFn) (hx : Boxed W x 9 (.string ⟨p.toArray⟩)) (h : bigB p b) :
    Calls Tryd.prog 48 #[.string ⟨b.toArray⟩, .pointer (some ⟨bS, 0, none⟩), .pointer (some ⟨x, 0, none⟩)] W fun e W' => e = .returned (.tuple #[.agg #[.string ⟨#[]⟩, .string ⟨#[]⟩], .int .i64 4]) ∧ Below W.heap.size W W' := by
  have hg3 := hG.size
  have hSZ := hS.alloc (.cells #[.string ⟨#[]⟩, .string ⟨#[]⟩] 48)
  have hxZ := hx.alloc (.cells #[.string ⟨#[]⟩, .string ⟨#[]⟩] 48)
  have hbZ : Below W.heap.size W (W.alloc (.cells #[.string ⟨#[]⟩, .string ⟨#[]⟩] 48)) := (Below.refl _ W).alloc (Nat.le_refl _) _
  have hrZ := heap_alloc_new W (.cells #[.string ⟨#[]⟩, .string ⟨#[]⟩] 48)
  have c1 := hSZ.cell
  have c2 := hxZ.cell
  have hN := fun w1 h1 => pnextF_any p b hp hb w1 h1
  rw [nextL_no sumL p b h] at hN
  have hz : (Tryd.prog.info? 48).map (·.size) = some 2 := size48
  go_enter Tryd.func48, Tryd.ntmps48
  go_wp2_with fail
  refine (hN _ (hG.below hbZ hg3)).mono ?_
  rintro e w1 ⟨rfl, hb1⟩
  have hr1 : w1.heap[W.heap.size]? = some (.cells #[.string ⟨#[]⟩, .string ⟨#[]⟩] 48 (0, 0)) := (hb1.block _ (Array.getElem?_eq_some_iff.1 hrZ).1).trans hrZ
  clear hrZ hSZ hxZ c1 c2 hN
  have f0 := cell_of_row _ W.heap.size 0 _ _ _ hr1
  have f1 := cell_of_row _ W.heap.size 1 _ _ _ hr1
  have f2 := frozen_of_row _ W.heap.size 0 _ _ hr1
  have f3 := frozen_of_row _ W.heap.size 1 _ _ hr1
  simp only [List.getElem?_toArray, List.getElem?_cons_zero, List.getElem?_cons_succ] at f0 f1
  have hB1 : Below W.heap.size W w1 := hbZ.trans (hb1.mono (by simp))
  go_wp2_with fail
  refine bodyPost_ret (v := .tuple #[.agg #[.string ⟨#[]⟩, .string ⟨#[]⟩], .int .i64 4]) (results_row_tmp Tryd.results48 _ _ W.heap.size 48 #[.string ⟨#[]⟩, .string ⟨#[]⟩] (0, 0) _ rfl ?_ Tryd.underlying48 rfl hz) rfl ⟨rfl, ?_⟩
  · have k1 := heap_setCell_same _ W.heap.size 0 _ _ (.string ⟨#[]⟩) hr1
    exact heap_setCell_same _ W.heap.size 1 _ _ (.string ⟨#[]⟩) k1
  · exact (hB1.setCell (Nat.le_refl _) _).setCell (Nat.le_refl _) _
end Go.Proofs.YtgickejfcmnaiaaDoor
