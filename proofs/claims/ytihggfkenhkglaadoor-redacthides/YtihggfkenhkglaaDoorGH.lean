/-
  A region that draws its order, whose first operations only read, and whose later ones wait for them: the first ones in the text's order, then whatever order is left: of no program.
  Structs in a block of their own, read, stored and kept; short words for regions that draw: of no program.
  Events as values, rows of them made; small facts of memory: of no program but for the event's type.
  A region that draws its order, some of whose operations read what nothing ahead of operation d changes (C): these first; then what is left, C being kept: of no program. And such a region in a round of a range over a function.
  As Float's takeC, where operation d waits for i by way of a third one: of no program.
  Small facts for rounds of a range over a function: of no program.
  Small facts for loops over events: rows of events made and set, what lies below; of no program.
-/
import Derived.Test.YtihggfkenhkglaaDoorGC
import Derived.StillTail
import Derived.Orders
import Derived.Test.YtihggfkenhkglaaDoorProg
import Derived.Test.YtihggfkenhkglaaDoorGB
import Derived.OwnWalk
import Derived.Lib.BufferWrite
import Derived.RangeFuncCalls
import Derived.OrdersIn
import Derived.TacticsIn
import Derived.RangeFuncNested
import Derived.RangeFuncBound
import Derived.RangeFuncLeaves
import Derived.RangeFuncBox
import Derived.Shelf.Abstract
import Derived.Shelf.RegionOpen
import Derived.OwnWalkIn
import Derived.TacticsInMore
import Derived.LoopNIn
import Derived.LoopIn
namespace Go.Proofs.YtihggfkenhkglaaDoor
set_option maxRecDepth 100000
open Go.RowKit
set_option linter.unusedVariables false
section
variable {P : Program} {ops : Array Oper} {md : Region.Mode} {w : World}
/-- Each from m to n is waited for by a later one of these, or by all that are behind. -/
def waitB (md : Region.Mode) (ops : Array Oper) (m n : Nat) : Bool :=
  (List.range n).all fun i => decide (i < m) || ((List.range n).any fun j => decide (i < j) && Region.waitsFor md ops j i) || ((List.range ops.size).all fun t => decide (t < n) || Region.waitsFor md ops t i)
theorem behind_waits {m n : Nat} {listed : Array Bool} (hs : waitB md ops m n = true) (inv : HeadInv md ops n listed) :
    ∀ (d i : Nat), n - i = d → m ≤ i → i < n → listed.getD i true = false → ∀ t, n ≤ t → t ∉ Region.ready md ops listed := by
  intro d
  induction d using Nat.strongRecOn with
  | _ d ih =>
    intro i hd hmi hi hun t ht hr
    obtain ⟨_, ot, hot, hall⟩ := mem_ready.1 hr
    have htlt : t < ops.size := (Array.getElem?_eq_some_iff.1 hot).1
    have h1 := List.all_eq_true.1 hs i (List.mem_range.2 hi)
    rcases (by simpa only [Bool.or_eq_true] using h1 : (_ ∨ _) ∨ _) with (h2 | h2) | h2
    · have := of_decide_eq_true h2; omega
    · obtain ⟨j, hj, hj2⟩ := List.any_eq_true.1 h2
      have hjn := List.mem_range.1 hj
      simp only [Bool.and_eq_true, decide_eq_true_eq] at hj2
      obtain ⟨oj, hoj, e, he, hb, hon⟩ := Region.waitsFor_spec hj2.2
      cases hl : listed.getD j false with
      | true =>
        have h3 := inv.closed j oj hoj hl e he hb
        rw [hon, getD_both hun] at h3
        cases h3
      | false => exact ih (n - j) (by omega) j rfl (by omega) hjn (getD_in (by rw [inv.size]; omega) hl) t ht hr
    · have h3 := List.all_eq_true.1 h2 t (List.mem_range.2 htlt)
      simp only [Bool.or_eq_true, decide_eq_true_eq] at h3
      rcases h3 with h3 | h3
      · omega
      · obtain ⟨o', ho', e, he, hb, hon⟩ := Region.waitsFor_spec h3
        obtain rfl : o' = ot := Option.some.inj (ho'.symm.trans hot)
        have h4 := hall e he hb
        rw [hon, getD_both hun] at h4
        cases h4
theorem still_first {m n i : Nat} {oi : Oper} {v : Value} {L : Array Bool → Act → Prop} (hi : ops[i]? = some oi) (hsel : ∀ (j : Nat) (o : Oper) cs b, ops[j]? = some o → o.op ≠ .select cs b)
    (hs : waitB md ops m n = true) (hmi : m ≤ i) (hin : i < n) (hdone : ∀ listed a, L listed a → ∀ j ∈ Region.ready md ops listed, n ≤ j) :
    ∀ (f : Nat) (listed : Array Bool) (a : Act), HeadInv md ops n listed →
      (∀ j oj, ops[j]? = some oj → j ≠ i → listed.getD j true = false → (∀ e ∈ oj.after, Region.binds md e = true → e.on ≠ i) → oi.apart ops oj = true) →
      i ∈ Region.ready md ops listed → YieldsAt P ops w oi v a →
      wpAnyL P md ops w n L f (listed.setIfInBounds i true) (a.put oi.dst v) → wpAnyL P md ops w n L (f + 1) listed a := by
  intro f
  induction f with
  | zero =>
    intro listed a inv _ hr hy H
    have hun := (mem_ready.1 hr).1
    refine ⟨fun h => (by rw [h] at hr; cases hr), fun j hj => ?_⟩
    have hjn : j < n := Nat.lt_of_not_le fun h => behind_waits hs inv _ i rfl hmi hin hun j h hj
    refine ⟨hjn, ?_⟩
    by_cases hji : j = i
    · subst hji; exact hy.stOp hi H
    · have := hdone _ _ H j (ready_mono hj hji)
      omega
  | succ f ih =>
    intro listed a inv hfree hr hy H
    have hun := (mem_ready.1 hr).1
    refine ⟨fun h => (by rw [h] at hr; cases hr), fun j hj => ?_⟩
    have hjn : j < n := Nat.lt_of_not_le fun h => behind_waits hs inv _ i rfl hmi hin hun j h hj
    refine ⟨hjn, ?_⟩
    by_cases hji : j = i
    · subst hji; exact hy.stOp hi H
    · have h1 := (H.2 j (ready_mono hj hji)).2
      obtain ⟨hjun, oj, hoj, hall⟩ := mem_ready.1 hj
      have hnot : ∀ e ∈ oj.after, Region.binds md e = true → e.on ≠ i := fun e he hb heq => by
        have h1 := hall e he hb
        rw [heq, getD_both hun] at h1
        cases h1
      have h2 := stOp_put hoj (hfree j oj hoj hji hjun hnot) (fun cs b => hsel i oi cs b hi) (fun cs b => hsel j oj cs b hoj) hy h1
      refine stOp_mono (fun a' h3 => ih (listed.setIfInBounds j true) a' (inv.set hj hjn) (fun k ok hk hki hku hno => ?_) (ready_mono hr (Ne.symm hji)) h3.1 ?_) h2
      · refine hfree k ok hk hki ?_ hno
        by_cases hjk : j = k
        · subst hjk; exact hjun
        · rw [getD_set_ne true hjk] at hku; exact hku
      · rw [Array.setIfInBounds_comm _ _ hji]
        exact h3.2
/-- The first f from k on, one behind the other; then only later ones may come. -/
def lexH (md : Region.Mode) (ops : Array Oper) : Nat → Nat → Array Bool → Bool
  | 0, k, listed => (Region.ready md ops listed).all fun j => decide (k ≤ j)
  | f + 1, k, listed => (Region.ready md ops listed).contains k && Region.free md ops listed k && lexH md ops f (k + 1) (listed.setIfInBounds k true)
def setN : Nat → Nat → Array Bool → Array Bool
  | 0, _, listed => listed
  | f + 1, k, listed => setN f (k + 1) (listed.setIfInBounds k true)
theorem still_lex {m n : Nat} {Lq : Act → Prop} (hsel : Region.noSelect ops = true) (hs : waitB md ops m n = true) (E : Array Bool) (hE : ∀ j ∈ Region.ready md ops E, n ≤ j) :
    ∀ (l : List Oper) (k : Nat) (listed : Array Bool) (a : Act), m ≤ k → (∀ j, j < l.length → l[j]? = ops[k + j]?) → k + l.length = n → HeadInv md ops n listed →
    lexH md ops l.length k listed = true → setN l.length k listed = E → wpStill P ops w Lq l a →
    wpAnyL P md ops w n (fun listed' a' => listed' = E ∧ Lq a') l.length listed a
  | [], k, listed, a, _, _, hk, _, hB, he, h => ⟨he, h⟩
  | o :: l, k, listed, a, hmk, hl, hk, inv, hB, he, h => by
    have h0 : ops[k]? = some o := by simpa using (hl 0 (by simp)).symm
    simp only [List.length_cons, lexH, Bool.and_eq_true] at hB
    obtain ⟨⟨hr, hf⟩, hB'⟩ := hB
    have hkn : k < n := by simp only [List.length_cons] at hk; omega
    have hr' : k ∈ Region.ready md ops listed := by simpa using hr
    have hst : stOp P ops w k (wpStill P ops w Lq l) a := by unfold stOp; simp only [h0]; exact h
    obtain ⟨v, hy, hK⟩ := yieldsAt_of_stOp h0 hst
    exact still_first h0 (Region.noSelect_spec hsel) hs hmk hkn (fun listed' a' hL => by rw [hL.1]; exact hE) l.length listed a inv (Region.free_spec h0 hf) hr' hy
      (still_lex hsel hs E hE l (k + 1) _ _ (by omega) (fun j hj => by have := hl (j + 1) (by simp; omega); simpa [Nat.add_assoc, Nat.add_comm 1 j] using this) (by simp only [List.length_cons] at hk; omega) (inv.set hr' hkn) hB' he hK)
def invB (md : Region.Mode) (ops : Array Oper) (n : Nat) (listed : Array Bool) : Bool :=
  decide (listed.size = ops.size) && ((List.range ops.size).all fun j => (!listed.getD j false) || (match ops[j]? with | some oj => oj.after.all fun e => (!Region.binds md e) || listed.getD e.on false | none => true)) && ((List.range ops.size).all fun t => decide (t < n) || !listed.getD t true)
theorem invB_spec {n : Nat} {listed : Array Bool} (h : invB md ops n listed = true) : HeadInv md ops n listed := by
  simp only [invB, Bool.and_eq_true, decide_eq_true_eq] at h
  obtain ⟨⟨h1, h2⟩, h3⟩ := h
  refine ⟨h1, fun j oj hj hl e he hb => ?_, fun t ht ht' => ?_⟩
  · have hjl : j < ops.size := (Array.getElem?_eq_some_iff.1 hj).1
    have h4 := List.all_eq_true.1 h2 j (List.mem_range.2 hjl)
    rw [hl, hj] at h4
    simp only [Bool.not_true, Bool.false_or] at h4
    have h5 := Array.all_eq_true'.1 h4 e he
    rw [hb] at h5
    simpa using h5
  · have h4 := List.all_eq_true.1 h3 t (List.mem_range.2 ht')
    simp only [Bool.or_eq_true, decide_eq_true_eq, Bool.not_eq_true'] at h4
    rcases h4 with h4 | h4
    · omega
    · exact h4
def headB (md : Region.Mode) (ops : Array Oper) (m n : Nat) (listed : Array Bool) : Bool :=
  Region.noSelect ops && decide (m ≤ n) && decide (n < ops.size) && waitB md ops m n && lexH md ops (n - m) m listed && invB md ops n listed && (Region.ready md ops (setN (n - m) m listed)).all fun j => decide (n ≤ j)
/-- Those from m to n in the text's order, in the world as it is; then what is left, in whatever order. -/
theorem any_head {Q : Exit → Act → World → Prop} {a : Act} {w : World} {l : List Oper} {listed : Array Bool} (m n g : Nat) (hB : headB .any l.toArray m n listed = true)
    (h : wpStill P l.toArray w (fun a' => wpAny P .any l.toArray Q g (setN (n - m) m listed) a' w) ((l.drop m).take (n - m)) a) : wpAny P .any l.toArray Q (n - m + g) listed a w := by
  simp only [headB, Bool.and_eq_true, decide_eq_true_eq] at hB
  obtain ⟨⟨⟨⟨⟨⟨hsel, hmn⟩, hn⟩, hs⟩, hlex⟩, hinv⟩, hE⟩ := hB
  have hn' : n < l.length := by simpa using hn
  have htl : ((l.drop m).take (n - m)).length = n - m := by simp; omega
  have H := still_lex (md := .any) hsel hs (setN (n - m) m listed) (fun j hj => by simpa using List.all_eq_true.1 hE j hj) ((l.drop m).take (n - m)) m _ a (Nat.le_refl _) (fun j hj => by
    have hj' : j < n - m := by rw [htl] at hj; exact hj
    simp [hj', List.getElem?_drop]) (by omega) (invB_spec hinv) (by rw [htl]; exact hlex) (by rw [htl]) h
  have := wpAny_of_head (Q' := Q) (g := g) (fun listed a' hL => by rw [hL.1]; exact hL.2) _ _ _ H
  rw [htl] at this
  exact this
/-- What is left has one order. -/
def seqI (md : Region.Mode) (ops : Array Oper) : List Nat → Array Bool → Bool
  | [], listed => (Region.ready md ops listed).isEmpty
  | i :: is, listed => decide (Region.ready md ops listed = [i]) && seqI md ops is (listed.setIfInBounds i true)
theorem any_seqI {Q : Exit → Act → World → Prop} : ∀ (is : List Nat) (l : List Oper) (listed : Array Bool) (a : Act) (w : World), l.map some = is.map (fun i => ops[i]?) → seqI md ops is listed = true → wpList P ops Q l a w → wpAny P md ops Q is.length listed a w
  | [], l, listed, a, w, hl, hB, h => by
    obtain rfl : l = [] := by cases l <;> simp_all
    exact ⟨by simpa [seqI] using hB, h⟩
  | i :: is, l, listed, a, w, hl, hB, h => by
    match l, hl, h with
    | o :: l, hl, h =>
      simp only [List.map_cons, List.cons.injEq] at hl
      simp only [seqI, Bool.and_eq_true, decide_eq_true_eq] at hB
      refine ⟨fun h1 => (by rw [hB.1] at h1; cases h1), fun j hj => ?_⟩
      rw [hB.1] at hj
      obtain rfl : j = i := by simpa using hj
      have hw : wpOp P ops Q j (wpList P ops Q l) a w := by unfold wpOp; rw [← hl.1]; exact h
      exact wpOp_mono (fun a' w' h' => any_seqI is l _ a' w' hl.2 hB.2 h') hw
end
end Go.Proofs.YtihggfkenhkglaaDoor
namespace Go.Proofs.YtihggfkenhkglaaDoor
set_option maxRecDepth 100000
open Go.RowKit
set_option linter.unusedVariables false
/-- Block g is a struct's. -/
def SBox (w : World) (g : Nat) (t : TypeId) (cs : Array Value) : Prop := w.heap[g]? = some (.cells cs t (0, 0))
theorem SBox.lt {w : World} {g : Nat} {t : TypeId} {cs : Array Value} (h : SBox w g t cs) : g < w.heap.size := (Array.getElem?_eq_some_iff.1 h).1
theorem SBox.cell {w : World} {g : Nat} {t : TypeId} {cs : Array Value} (h : SBox w g t cs) (j : Nat) (u : Value) (hu : cs[j]? = some u) : w.cell? ⟨g, j, none⟩ = some u := by
  unfold SBox at h
  simp [World.cell?, h, hu]
theorem SBox.frozen {w : World} {g : Nat} {t : TypeId} {cs : Array Value} (h : SBox w g t cs) (j : Nat) : w.frozen? ⟨g, j, none⟩ = false := by
  unfold SBox at h
  simp [World.frozen?, h]
theorem SBox.set {w : World} {g : Nat} {t : TypeId} {cs : Array Value} (h : SBox w g t cs) (j : Nat) (v : Value) : SBox (w.setCell ⟨g, j, none⟩ v) g t (cs.setIfInBounds j v) := by
  unfold SBox at h ⊢
  simp [World.setCell, Array.getElem?_modify, h]
theorem SBox.other {w : World} {g : Nat} {t : TypeId} {cs : Array Value} (h : SBox w g t cs) (k j : Nat) (v : Value) (hne : k ≠ g) : SBox (w.setCell ⟨k, j, none⟩ v) g t cs := by
  unfold SBox at h ⊢
  simp [World.setCell, Array.getElem?_modify, h, hne]
theorem SBox.below {w w' : World} {g : Nat} {t : TypeId} {cs : Array Value} (h : SBox w g t cs) (b : Below w.heap.size w w') : SBox w' g t cs := (b.block g h.lt).trans h
theorem SBox.alloc {w : World} {g : Nat} {t : TypeId} {cs : Array Value} (h : SBox w g t cs) (o : Obj) : SBox (w.alloc o) g t cs := h.below ((Below.refl _ w).alloc (Nat.le_refl _) o)
theorem SBox.new (w : World) (t : TypeId) (cs : Array Value) : SBox (w.alloc (.cells cs t)) w.heap.size t cs := by
  show (w.heap.push (.cells cs t))[w.heap.size]? = _
  simp
theorem SBox.drew {w : World} {g : Nat} {t : TypeId} {cs : Array Value} (h : SBox w g t cs) : SBox w.drew g t cs := h
/-- All cells of a struct stored, one behind the other. -/
theorem SBox.put4 {w : World} {g : Nat} {t : TypeId} {p q r s : Value} (h : SBox w g t #[p, q, r, s]) (a b c d : Value) : SBox ((((w.setCell ⟨g, 0, none⟩ a).setCell ⟨g, 1, none⟩ b).setCell ⟨g, 2, none⟩ c).setCell ⟨g, 3, none⟩ d) g t #[a, b, c, d] :=
  (((h.set 0 a).set 1 b).set 2 c).set 3 d
theorem SBox.put4_other {w : World} {g k : Nat} {t : TypeId} {cs : Array Value} (h : SBox w g t cs) (hne : k ≠ g) (a b c d : Value) : SBox ((((w.setCell ⟨k, 0, none⟩ a).setCell ⟨k, 1, none⟩ b).setCell ⟨k, 2, none⟩ c).setCell ⟨k, 3, none⟩ d) g t cs :=
  (((h.other k 0 a hne).other k 1 b hne).other k 2 c hne).other k 3 d hne
theorem bel_put4 {B : Nat} {a w : World} (h : Below B a w) {g : Nat} (hg : B ≤ g) (p q r s : Value) : Below B a ((((w.setCell ⟨g, 0, none⟩ p).setCell ⟨g, 1, none⟩ q).setCell ⟨g, 2, none⟩ r).setCell ⟨g, 3, none⟩ s) :=
  (((h.setCell (p := ⟨g, 0, none⟩) hg p).setCell (p := ⟨g, 1, none⟩) hg q).setCell (p := ⟨g, 2, none⟩) hg r).setCell (p := ⟨g, 3, none⟩) hg s
theorem cell_bel {W W' : World} (b : Below W.heap.size W W') {a : Addr} {v : Value} (h : W.cell? a = some v) : W'.cell? a = some v := by
  have hlt : a.block < W.heap.size := by
    rcases Nat.lt_or_ge a.block W.heap.size with h' | h'
    · exact h'
    · simp [World.cell?, Array.getElem?_eq_none h'] at h
  rw [b.cell hlt]
  exact h
end Go.Proofs.YtihggfkenhkglaaDoor
namespace Go.Proofs.YtihggfkenhkglaaDoor
set_option maxRecDepth 100000
open Go.RowKit
set_option linter.unusedVariables false
abbrev evW (x : Ev) : Value := .agg #[.int .i64 x.1, .int .i64 x.2.1, .string ⟨x.2.2.1.toArray⟩, .string ⟨x.2.2.2.toArray⟩]
theorem ev_info7 : (Tryd.prog.info? 23).map (fun i => (i.zero, i.size, i.bytes)) = some (some (.agg #[.int .i64 0, .int .i64 0, .string ByteArray.empty, .string ByteArray.empty]), 4, 48) := by kernel_rfl
theorem size_ev7 : (Tryd.prog.info? 23).map (·.size) = some 4 := by kernel_rfl
theorem ne_nil7 (l : List UInt8) (h : l ≠ []) : l.isEmpty = false := by cases l with
  | nil => exact absurd rfl h
  | cons _ _ => rfl
theorem owns_keep7 {W : World} {B e k n g j : Nat} {v : Value} {xs : List Value} (h : W.ownsRow B e k v n xs) (u : Value) (hne : some g ≠ v.ownBlock) : (W.setCell ⟨g, j, none⟩ u).ownsRow B e k v n xs := h.kept (Lib.grownBy_setCell W g j u) (.inr (fun e => hne e.symm))
theorem cell_new7 {W : World} {c : Array Value} {t : TypeId} {b j : Nat} {u : Value} (hb : b = W.heap.size) (h : c[j]? = some u) : (W.alloc (.cells c t)).cell? ⟨b, j, none⟩ = some u := by
  subst hb
  rw [World.cell?_alloc_new]
  exact h
/-- A row of events, made. -/
def EvRow (t : TypeId) (w : World) (L : List Ev) (e : Ending) (w' : World) : Prop := ∃ v, e = .returned v ∧ Below w.heap.size w w' ∧ w'.ownsRow w.heap.size t 4 v L.length (recV evV L)
end Go.Proofs.YtihggfkenhkglaaDoor
namespace Go.Proofs.YtihggfkenhkglaaDoor
set_option maxRecDepth 100000
open Go.RowKit
set_option linter.unusedVariables false
section
variable {P : Program} {ops : Array Oper} {md : Region.Mode} {Q : Exit → Act → World → Prop}
def wpAnyC (C : World → Prop) (d : Nat) (P : Program) (md : Region.Mode) (ops : Array Oper) (Q : Exit → Act → World → Prop) : Nat → Array Bool → Act → World → Prop
  | 0, listed, a, w => wpAny P md ops Q 0 listed a w ∧ (listed.getD d false = false → C w)
  | f + 1, listed, a, w => (listed.getD d false = true ∧ wpAny P md ops Q (f + 1) listed a w) ∨
      (listed.getD d false = false ∧ C w ∧ (Region.ready md ops listed = [] → Q .normal a w) ∧ ∀ i ∈ Region.ready md ops listed, wpOp P ops Q i (wpAnyC C d P md ops Q f (listed.setIfInBounds i true)) a w)
theorem any_of_C {C : World → Prop} (d : Nat) : ∀ (f : Nat) (listed : Array Bool) (a : Act) (w : World), wpAnyC C d P md ops Q f listed a w → wpAny P md ops Q f listed a w
  | 0, _, _, _, h => h.1
  | f + 1, listed, a, w, h => by
    rcases h with h | ⟨_, _, h1, h2⟩
    · exact h.2
    · exact ⟨h1, fun i hi => wpOp_mono (fun a' w' h' => any_of_C d f _ a' w' h') (h2 i hi)⟩
/-- An operation that yields one value in whatever world keeps C. -/
def YieldsC (C : World → Prop) (P : Program) (ops : Array Oper) (o : Oper) (v : Value) (a : Act) : Prop :=
  (Region.wanted o (yielded ops a.tmps) = true ∧ ∀ w, C w → (execOp a.eval o).run P w = .ok (.value v) w) ∨ (Region.wanted o (yielded ops a.tmps) = false ∧ v = undef)
theorem YieldsC.op {C : World → Prop} {i : Nat} {o : Oper} {v : Value} {a : Act} (hi : ops[i]? = some o) (hy : YieldsC C P ops o v a) {K : Act → World → Prop} {w : World} (hC : C w) (h : K (a.put o.dst v) w) : wpOp P ops Q i K a w := by
  unfold wpOp
  simp only [hi]
  rcases hy with ⟨hw, hv⟩ | ⟨hw, rfl⟩
  · simp only [hw, if_true, Oper.wp, hv w hC, Oper.upon]; exact .inl h
  · simp only [hw, Bool.false_eq_true, if_false]; exact h
theorem YieldsC.same {C : World → Prop} {o : Oper} {v : Value} {a a' : Act} (hy : YieldsC C P ops o v a) (he : execOp a'.eval o = execOp a.eval o) (hw : Region.wanted o (yielded ops a'.tmps) = Region.wanted o (yielded ops a.tmps)) : YieldsC C P ops o v a' := by
  unfold YieldsC at *
  rw [he, hw]
  exact hy
theorem wpOp_putC {C : World → Prop} {j : Nat} {oi oj : Oper} {v : Value} (hj : ops[j]? = some oj) (hap : oi.apart ops oj = true)
    (hsi : ∀ cs b, oi.op ≠ .select cs b) (hsj : ∀ cs b, oj.op ≠ .select cs b)
    (hQ : ∀ c a w, Q (.panic c) (a.put oi.dst v) w → Q (.panic c) a w) {K : Act → World → Prop} {a : Act} {w : World}
    (hy : YieldsC C P ops oi v a) (h : wpOp P ops Q j K (a.put oi.dst v) w) :
    wpOp P ops Q j (fun a' w' => YieldsC C P ops oi v a' ∧ K (a'.put oi.dst v) w') a w := by
  obtain ⟨h1, h2, h3⟩ := Oper.apart_spec hap
  have keep : ∀ (a : Act), YieldsC C P ops oi v a → ∀ u, YieldsC C P ops oi v (a.put oj.dst u) := fun a hy u => hy.same (execOp_put oi hsi a oj.dst u h3) (wanted_put oi a oj.dst u h3)
  have keepD : ∀ d, YieldsC C P ops oi v { a with defers := d :: a.defers } := fun d => hy.same rfl rfl
  unfold wpOp at *
  simp only [hj] at *
  rw [wanted_put oj a oi.dst v h1] at h
  by_cases hw : Region.wanted oj (yielded ops a.tmps) = true
  · rw [if_pos hw] at h ⊢
    rcases h with h | ⟨hasks, hlets⟩
    case inr => exact .inr ⟨by unfold Oper.asks at *; rw [execOp_put oj hsj a oi.dst v h1] at hasks; exact hasks, hlets⟩
    refine .inl ?_
    unfold Oper.wp at *
    rw [execOp_put oj hsj a oi.dst v h1] at h
    generalize (execOp a.eval oj).run P w = r at *
    cases r with
    | ok n w' =>
      cases n <;> simp only [Oper.upon] at h ⊢
      case value u => exact ⟨keep a hy u, by rw [← Act.put_comm a v u h2]; exact h⟩
      case skip => exact ⟨keep a hy _, by rw [← Act.put_comm a v undef h2]; exact h⟩
      case defer d =>
        refine ⟨keep _ (keepD d) _, ?_⟩
        rw [← Act.put_comm _ v undef h2, ← Act.put_defers]
        exact h
      case enter f args =>
        refine Calls.mono h fun e w'' he => ?_
        cases e with
        | returned u => exact ⟨keep a hy u, by rw [← Act.put_comm a v u h2]; exact he⟩
        | panicked c => exact hQ _ _ _ he
        | outgrown => exact he
      case row row args => exact Rows.mono h fun u w'' he => ⟨keep a hy u, by rw [← Act.put_comm a v u h2]; exact he⟩
    | halt x w' =>
      cases x <;> simp only [Oper.upon] at h ⊢
      case panic u => exact hQ _ _ _ h
  · rw [if_neg hw] at h ⊢
    exact ⟨keep a hy _, by rw [← Act.put_comm a v undef h2]; exact h⟩
theorem firstC {C : World → Prop} {d i : Nat} {oi : Oper} {v : Value} (hi : ops[i]? = some oi) (hsel : ∀ (j : Nat) (o : Oper) cs b, ops[j]? = some o → o.op ≠ .select cs b)
    (hdw : Region.waitsFor md ops d i = true) (hQ : ∀ c a w, Q (.panic c) (a.put oi.dst v) w → Q (.panic c) a w) :
    ∀ (f : Nat) (listed : Array Bool) (a : Act) (w : World), listed.getD d false = false →
      (∀ j oj, ops[j]? = some oj → j ≠ i → listed.getD j true = false → (∀ e ∈ oj.after, Region.binds md e = true → e.on ≠ i) → oi.apart ops oj = true) →
      i ∈ Region.ready md ops listed → YieldsC C P ops oi v a →
      wpAnyC C d P md ops Q f (listed.setIfInBounds i true) (a.put oi.dst v) w → wpAnyC C d P md ops Q (f + 1) listed a w := by
  have hnd : ∀ (listed : Array Bool) j, i ∈ Region.ready md ops listed → j ∈ Region.ready md ops listed → j ≠ d := fun listed j hr hj hjd => by
    subst hjd
    obtain ⟨o', ho', e, he, hb, hon⟩ := Region.waitsFor_spec hdw
    obtain ⟨_, oj, hoj, hall⟩ := mem_ready.1 hj
    obtain rfl : o' = oj := Option.some.inj (ho'.symm.trans hoj)
    have h4 := hall e he hb
    rw [hon, getD_both (mem_ready.1 hr).1] at h4
    cases h4
  intro f
  induction f with
  | zero =>
    intro listed a w hdl _ hr hy H
    have hid : i ≠ d := hnd listed i hr hr
    refine .inr ⟨hdl, H.2 (by rw [getD_set_ne false hid]; exact hdl), fun h => (by rw [h] at hr; cases hr), fun j hj => ?_⟩
    by_cases hji : j = i
    · subst hji; exact hy.op hi (H.2 (by rw [getD_set_ne false hid]; exact hdl)) H
    · have := ready_mono hj hji
      rw [H.1.1] at this
      cases this
  | succ f ih =>
    intro listed a w hdl hfree hr hy H
    have hid : i ≠ d := hnd listed i hr hr
    rcases H with H | H
    · rw [getD_set_ne false hid, hdl] at H; cases H.1
    · obtain ⟨hd1, hC, hn, H⟩ := H
      refine .inr ⟨hdl, hC, fun h => (by rw [h] at hr; cases hr), fun j hj => ?_⟩
      by_cases hji : j = i
      · subst hji; exact hy.op hi hC (.inr ⟨hd1, hC, hn, H⟩)
      · have h1 := H j (ready_mono hj hji)
        obtain ⟨hjun, oj, hoj, hall⟩ := mem_ready.1 hj
        have hnot : ∀ e ∈ oj.after, Region.binds md e = true → e.on ≠ i := fun e he hb heq => by
          have h1 := hall e he hb
          rw [heq, getD_both (mem_ready.1 hr).1] at h1
          cases h1
        have h2 := wpOp_putC hoj (hfree j oj hoj hji hjun hnot) (fun cs b => hsel i oi cs b hi) (fun cs b => hsel j oj cs b hoj) hQ hy h1
        refine wpOp_mono (fun a' w' h3 => ih (listed.setIfInBounds j true) a' w' (by rw [getD_set_ne false (hnd listed j hr hj)]; exact hdl) (fun k ok hk hki hku hno => ?_) (ready_mono hr (Ne.symm hji)) h3.1 ?_) h2
        · refine hfree k ok hk hki ?_ hno
          by_cases hjk : j = k
          · subst hjk; exact hjun
          · rw [getD_set_ne true hjk] at hku; exact hku
        · rw [Array.setIfInBounds_comm _ _ hji]
          exact h3.2
/-- Operation i first: it yields v as long as C holds, which it does until operation d, which waits for i. -/
theorem takeC {C : World → Prop} {d i : Nat} {oi : Oper} {v : Value} {f : Nat} {listed : Array Bool} {a : Act} {w : World} (hi : ops[i]? = some oi)
    (hs : Region.noSelect ops = true) (hf : Region.free md ops listed i = true) (hr : (Region.ready md ops listed).contains i = true) (hdw : Region.waitsFor md ops d i = true) (hdl : listed.getD d false = false)
    (hQ : ∀ c a w, Q (.panic c) (a.put oi.dst v) w → Q (.panic c) a w) (hy : YieldsC C P ops oi v a)
    (h : wpAnyC C d P md ops Q f (listed.setIfInBounds i true) (a.put oi.dst v) w) : wpAnyC C d P md ops Q (f + 1) listed a w :=
  firstC hi (Region.noSelect_spec hs) hdw hQ f listed a w hdl (Region.free_spec hi hf) (by simpa using hr) hy h
theorem wpOp_of_list {i : Nat} {o : Oper} {K : Act → World → Prop} {a : Act} {w : World} (ho : ops[i]? = some o) (h : wpList P ops (Exit.then K Q) [o] a w) : wpOp P ops Q i K a w := by
  unfold wpOp
  simp only [ho]
  simp only [wpList] at h
  by_cases hw : Region.wanted o (yielded ops a.tmps) = true
  · rw [if_pos hw] at h ⊢
    rcases h with h | ⟨h1, a0, w0, h2⟩
    · refine .inl ?_
      unfold Oper.wp at *
      generalize (execOp a.eval o).run P w = r at *
      cases r with
      | ok n w' =>
        cases n <;> simp only [Oper.upon] at h ⊢
        case value u => exact h
        case skip => exact h
        case defer d => exact h
        case enter f args =>
          refine Calls.mono h fun e w'' he => ?_
          cases e with
          | returned u => exact he
          | panicked c => exact he
          | outgrown => exact he
        case row row args => exact h
      | halt x w' =>
        cases x <;> simp only [Oper.upon] at h ⊢
        case panic u => exact h
    · exact .inr ⟨h1, a0, w0, h2⟩
  · rw [if_neg hw] at h ⊢
    exact h
/-- The one that may come next. -/
theorem consC {C : World → Prop} {d i : Nat} {o : Oper} {f : Nat} {listed : Array Bool} {a : Act} {w : World} (hr : Region.ready md ops listed = [i]) (hdl : listed.getD d false = false) (hC : C w) (ho : ops[i]? = some o)
    (h : ∀ K : Act → World → Prop, (∀ a w, wpAnyC C d P md ops Q f (listed.setIfInBounds i true) a w → K a w) → wpList P ops (Exit.then K Q) [o] a w) : wpAnyC C d P md ops Q (f + 1) listed a w := by
  refine .inr ⟨hdl, hC, fun h0 => (by rw [hr] at h0; cases h0), fun j hj => ?_⟩
  rw [hr] at hj
  obtain rfl : j = i := by simpa using hj
  exact wpOp_of_list ho (h _ fun _ _ h => h)
/-- Operation d is next: what is left, in its one order. -/
theorem lastC {C : World → Prop} {d : Nat} {f : Nat} {listed : Array Bool} {a : Act} {w : World} (hr : Region.ready md ops listed = [d]) (hdl : listed.getD d false = false) (hC : C w) (hlt : d < listed.size)
    (h : wpAny P md ops Q (f + 1) listed a w) : wpAnyC C d P md ops Q (f + 1) listed a w := by
  refine .inr ⟨hdl, hC, h.1, fun j hj => ?_⟩
  have hj' := hj
  rw [hr] at hj'
  obtain rfl : j = d := by simpa using hj'
  refine wpOp_mono (fun a' w' h' => ?_) (h.2 j hj)
  have hd : (listed.setIfInBounds j true).getD j false = true := by simp [hlt]
  cases f with
  | zero => exact ⟨h', fun h0 => by rw [hd] at h0; cases h0⟩
  | succ f => exact .inl ⟨hd, h'⟩
theorem rowsIn_of {l n : Nat} {row : String} {args : Array Value} {w : World} {R : Value → World → Prop} (h : Rows P row args w R) : RowsIn (Fence.wide.inRound l) n P row args w R :=
  fun c cs _ => let ⟨v, w', r, s⟩ := h c cs; ⟨v, w', r, stepsIn_wide.2 s⟩
def noDefer (ops : Array Oper) : Bool := ops.all fun o => match o.op with | .defer _ => false | _ => true
theorem noDefer_spec (h : noDefer ops = true) (j : Nat) (o : Oper) (ho : ops[j]? = some o) : ∀ c, o.op ≠ .defer c := by
  intro c heq
  have := Array.all_eq_true_iff_forall_mem.1 h o (Array.mem_of_getElem? ho)
  simp [heq] at this
theorem opIn_of {l n : Nat} {o : Oper} {a : Act} {w : World} {K : Act → World → Prop} (hnd : ∀ c, o.op ≠ .defer c) (h : o.wp P a w K Q) : o.wpIn (Fence.wide.inRound l) n P a w K Q := by
  unfold Oper.wpIn
  refine ⟨fun _ _ => trivial, ?_⟩
  rw [show (Fence.wide.inRound l).round = some l from rfl, Oper.semAt_some l _ o hnd]
  unfold Oper.wp at h
  generalize (execOp a.eval o).run P w = r at *
  cases r with
  | ok n w' =>
    cases n <;> simp only [Oper.upon, Oper.uponIn] at h ⊢
    case value u => exact h
    case skip => exact h
    case defer d => exact h
    case enter f args => exact ⟨fun h0 => (by cases h0), CallsIn.inRound l (callsIn_wide.2 h)⟩
    case row row args => exact ⟨fun h0 => (by cases h0), rowsIn_of h⟩
  | halt x w' =>
    cases x <;> simp only [Oper.upon, Oper.uponIn] at h ⊢
    case panic u => exact h
/-- A region in a round, as anywhere. -/
theorem anyIn_of {l n : Nat} (hlo : ¬ LetsOut Q) (hnd : noDefer ops = true) : ∀ (f : Nat) (listed : Array Bool) (a : Act) (w : World), wpAny P md ops Q f listed a w → wpAnyIn (Fence.wide.inRound l) n P md ops Q f listed a w
  | 0, _, _, _, h => h
  | f + 1, listed, a, w, h => by
    refine ⟨h.1, fun i hi => ?_⟩
    have h1 := h.2 i hi
    unfold wpOp at h1
    unfold wpOpIn
    cases ho : ops[i]? with
    | none => simp only [ho] at h1 ⊢; exact anyIn_of hlo hnd f _ _ _ h1
    | some o =>
      simp only [ho] at h1 ⊢
      by_cases hw : Region.wanted o (yielded ops a.tmps) = true
      · rw [if_pos hw] at h1 ⊢
        rcases h1 with h1 | h1
        · exact Oper.wpIn_mono (fun a' w' h' => anyIn_of hlo hnd f _ a' w' h') (opIn_of (noDefer_spec hnd i o ho) h1)
        · exact absurd h1.2 hlo
      · rw [if_neg hw] at h1 ⊢
        exact ⟨fun _ _ => trivial, anyIn_of hlo hnd f _ _ _ h1⟩
theorem regionIn_any {l n id : Nat} {a : Act} {w : World} (hm : P.follows .mixedOrders = true) (hlo : ¬ LetsOut Q) (hnd : noDefer ops = true)
    (h : wpAny P .any ops Q ops.size (Array.replicate ops.size false) a w.drew) : (Code.region id ops true).wpIn (Fence.wide.inRound l) n P Q a w :=
  wpIn_region_any hm (anyIn_of hlo hnd _ _ _ _ h)
/-- Operations in their order, in a round, as anywhere. -/
theorem listIn_of {l n : Nat} (hlo : ¬ LetsOut Q) : ∀ (L : List Oper) (a : Act) (w : World), (∀ o ∈ L, ∀ c, o.op ≠ .defer c) → wpList P ops Q L a w → wpListIn (Fence.wide.inRound l) n P ops Q L a w
  | [], _, _, _, h => h
  | o :: L, a, w, hnd, h => by
    simp only [wpList] at h
    simp only [wpListIn]
    by_cases hw : Region.wanted o (yielded ops a.tmps) = true
    · rw [if_pos hw] at h ⊢
      rcases h with h | h
      · exact Oper.wpIn_mono (fun a' w' h' => listIn_of hlo L a' w' (fun o' h' => hnd o' (List.mem_cons_of_mem _ h')) h') (opIn_of (hnd o (List.mem_cons_self ..)) h)
      · exact absurd h.2 hlo
    · rw [if_neg hw] at h ⊢
      exact ⟨fun _ _ => trivial, listIn_of hlo L _ _ (fun o' h' => hnd o' (List.mem_cons_of_mem _ h')) h⟩
end
end Go.Proofs.YtihggfkenhkglaaDoor
namespace Go.Proofs.YtihggfkenhkglaaDoor
set_option maxRecDepth 100000
open Go.RowKit
set_option linter.unusedVariables false
section
variable {P : Program} {ops : Array Oper} {md : Region.Mode} {Q : Exit → Act → World → Prop}
theorem firstCM {C : World → Prop} {d i m : Nat} {oi : Oper} {v : Value} (hi : ops[i]? = some oi) (hsel : ∀ (j : Nat) (o : Oper) cs b, ops[j]? = some o → o.op ≠ .select cs b)
    (hdm : Region.waitsFor md ops d m = true) (hmi : Region.waitsFor md ops m i = true) (hQ : ∀ c a w, Q (.panic c) (a.put oi.dst v) w → Q (.panic c) a w) :
    ∀ (f : Nat) (listed : Array Bool) (a : Act) (w : World), listed.getD d false = false → listed.getD m false = false →
      (∀ j oj, ops[j]? = some oj → j ≠ i → listed.getD j true = false → (∀ e ∈ oj.after, Region.binds md e = true → e.on ≠ i) → oi.apart ops oj = true) →
      i ∈ Region.ready md ops listed → YieldsC C P ops oi v a →
      wpAnyC C d P md ops Q f (listed.setIfInBounds i true) (a.put oi.dst v) w → wpAnyC C d P md ops Q (f + 1) listed a w := by
  have hnm : ∀ (listed : Array Bool) j, i ∈ Region.ready md ops listed → j ∈ Region.ready md ops listed → j ≠ m := fun listed j hr hj hjd => by
    subst hjd
    obtain ⟨o', ho', e, he, hb, hon⟩ := Region.waitsFor_spec hmi
    obtain ⟨_, oj, hoj, hall⟩ := mem_ready.1 hj
    obtain rfl : o' = oj := Option.some.inj (ho'.symm.trans hoj)
    have h4 := hall e he hb
    rw [hon, getD_both (mem_ready.1 hr).1] at h4
    cases h4
  have hnd : ∀ (listed : Array Bool) j, listed.getD m false = false → j ∈ Region.ready md ops listed → j ≠ d := fun listed j hm hj hjd => by
    subst hjd
    obtain ⟨o', ho', e, he, hb, hon⟩ := Region.waitsFor_spec hdm
    obtain ⟨_, oj, hoj, hall⟩ := mem_ready.1 hj
    obtain rfl : o' = oj := Option.some.inj (ho'.symm.trans hoj)
    have h4 := hall e he hb
    rw [hon, hm] at h4
    cases h4
  intro f
  induction f with
  | zero =>
    intro listed a w hdl hml _ hr hy H
    have hid : i ≠ d := hnd listed i hml hr
    refine .inr ⟨hdl, H.2 (by rw [getD_set_ne false hid]; exact hdl), fun h => (by rw [h] at hr; cases hr), fun j hj => ?_⟩
    by_cases hji : j = i
    · subst hji; exact hy.op hi (H.2 (by rw [getD_set_ne false hid]; exact hdl)) H
    · have := ready_mono hj hji
      rw [H.1.1] at this
      cases this
  | succ f ih =>
    intro listed a w hdl hml hfree hr hy H
    have hid : i ≠ d := hnd listed i hml hr
    rcases H with H | H
    · rw [getD_set_ne false hid, hdl] at H; cases H.1
    · obtain ⟨hd1, hC, hn, H⟩ := H
      refine .inr ⟨hdl, hC, fun h => (by rw [h] at hr; cases hr), fun j hj => ?_⟩
      by_cases hji : j = i
      · subst hji; exact hy.op hi hC (.inr ⟨hd1, hC, hn, H⟩)
      · have h1 := H j (ready_mono hj hji)
        obtain ⟨hjun, oj, hoj, hall⟩ := mem_ready.1 hj
        have hnot : ∀ e ∈ oj.after, Region.binds md e = true → e.on ≠ i := fun e he hb heq => by
          have h1 := hall e he hb
          rw [heq, getD_both (mem_ready.1 hr).1] at h1
          cases h1
        have h2 := wpOp_putC hoj (hfree j oj hoj hji hjun hnot) (fun cs b => hsel i oi cs b hi) (fun cs b => hsel j oj cs b hoj) hQ hy h1
        refine wpOp_mono (fun a' w' h3 => ih (listed.setIfInBounds j true) a' w' (by rw [getD_set_ne false (hnd listed j hml hj)]; exact hdl) (by rw [getD_set_ne false (hnm listed j hr hj)]; exact hml) (fun k ok hk hki hku hno => ?_) (ready_mono hr (Ne.symm hji)) h3.1 ?_) h2
        · refine hfree k ok hk hki ?_ hno
          by_cases hjk : j = k
          · subst hjk; exact hjun
          · rw [getD_set_ne true hjk] at hku; exact hku
        · rw [Array.setIfInBounds_comm _ _ hji]
          exact h3.2
/-- Operation i first: it yields v as long as C holds, which it does until operation d, which waits for m, which waits for i. -/
theorem takeCM {C : World → Prop} {d i : Nat} (m : Nat) {oi : Oper} {v : Value} {f : Nat} {listed : Array Bool} {a : Act} {w : World} (hi : ops[i]? = some oi)
    (hs : Region.noSelect ops = true) (hf : Region.free md ops listed i = true) (hr : (Region.ready md ops listed).contains i = true) (hdm : Region.waitsFor md ops d m = true) (hmi : Region.waitsFor md ops m i = true) (hdl : listed.getD d false = false) (hml : listed.getD m false = false)
    (hQ : ∀ c a w, Q (.panic c) (a.put oi.dst v) w → Q (.panic c) a w) (hy : YieldsC C P ops oi v a)
    (h : wpAnyC C d P md ops Q f (listed.setIfInBounds i true) (a.put oi.dst v) w) : wpAnyC C d P md ops Q (f + 1) listed a w :=
  firstCM hi (Region.noSelect_spec hs) hdm hmi hQ f listed a w hdl hml (Region.free_spec hi hf) (by simpa using hr) hy h
end
end Go.Proofs.YtihggfkenhkglaaDoor
namespace Go.Proofs.YtihggfkenhkglaaDoor
set_option maxRecDepth 100000
open Go.RowKit Go.Shelf
set_option linter.unusedVariables false
theorem cell_al {W : World} {a : Addr} {v : Value} (o : Obj) (h : W.cell? a = some v) : (W.alloc o).cell? a = some v := cell_kept h (World.grownBy_alloc W o none) (fun r e => by cases e)
theorem owns_low {w : World} {B B' e k n : Nat} {v : Value} {xs : List Value} (h : w.ownsRow B e k v n xs) (hb : B' ≤ B) : w.ownsRow B' e k v n xs := by
  obtain ⟨h1, h2⟩ := h
  refine ⟨h1, ?_⟩
  rcases h2 with h2 | ⟨g, cap, cur, hv, hbg, r⟩
  · exact .inl h2
  · exact .inr ⟨g, cap, cur, hv, by omega, r⟩
/-- What leaves all that lay leaves all that is no cells. -/
theorem keeps_of_below {W W' : World} (h : Below W.heap.size W W') : KeepsOthers W W' :=
  ⟨h.size, fun k o hk _ => (h.block k (Array.getElem?_eq_some_iff.1 hk).1).trans hk⟩
theorem boxed_below {W W' : World} {B t : Nat} {v : Value} (h : Boxed W B t v) (hb : Below W.heap.size W W') : Boxed W' B t v := (hb.block B h.lt).trans h
/-- A block of cells lies on where only what is no cells is turned. -/
theorem block_kept {W W' : World} {row : Option Nat} {B t : Nat} {c : Array Value} (h : W.heap[B]? = some (.cells c t (0, 0))) (hg : W.grownBy W' row) (hr : ∀ r, row = some r → ∃ o : Obj, W.heap[r]? = some o ∧ o.isCells = false) : W'.heap[B]? = some (.cells c t (0, 0)) :=
  (hg.block B (Array.getElem?_eq_some_iff.1 h).1 (fun e => by obtain ⟨o, ho, hc⟩ := hr B e.symm; rw [h] at ho; cases ho; cases hc)).trans h
/-- A block of cells of another type is no owned row's. -/
theorem block_not_row {W : World} {B t e : Nat} {c : Array Value} (h : W.heap[B]? = some (.cells c t (0, 0))) (hte : t ≠ e) {base size k : Nat} {v : Value} {xs : List Value} (hr : W.ownsRow base e size v k xs) : some B ≠ v.ownBlock := by
  rcases hr.2 with ⟨rfl, _⟩ | ⟨g, cap, cur, rfl, _, hgb, _⟩
  · simp [Value.ownBlock]
  · intro e'
    obtain rfl : B = g := by simpa [Value.ownBlock] using e'
    rw [h] at hgb
    simp at hgb
    exact hte hgb.2
theorem cell_of_block {W : World} {B t : Nat} {c : Array Value} {f : Nat × Nat} (h : W.heap[B]? = some (.cells c t f)) (j : Nat) : W.cell? ⟨B, j, none⟩ = c[j]? := by simp [World.cell?, h]
end Go.Proofs.YtihggfkenhkglaaDoor
namespace Go.Proofs.YtihggfkenhkglaaDoor
set_option maxRecDepth 100000
open Go.RowKit Go.Shelf
set_option linter.unusedVariables false
abbrev EvZ : Ev := (0, 0, [], [])
theorem made_evs7 (n : Nat) : (madeCells #[.int .i64 0, .int .i64 0, .string ByteArray.empty, .string ByteArray.empty] (n * 4)).toList = recV evV (List.replicate n EvZ) := by
  apply List.ext_getElem?
  intro j
  by_cases hj : j < n * 4
  · have g := recV_get evV_len (List.replicate n EvZ) (j / 4) (by simp; omega) (j % 4) (by omega)
    rw [show j / 4 * 4 + j % 4 = j by omega] at g
    rw [g, List.getElem_replicate]
    have h4 : j % 4 = 0 ∨ j % 4 = 1 ∨ j % 4 = 2 ∨ j % 4 = 3 := by omega
    rcases h4 with h4 | h4 | h4 | h4 <;> rw [h4] <;> simp [madeCells, hj, h4, evV] <;> rfl
  · have l := recV_length evV_len (List.replicate n EvZ)
    rw [List.length_replicate] at l
    rw [List.getElem?_eq_none (l := recV evV _) (by rw [l]; omega)]
    simp [madeCells, hj]
theorem evs_put7 (D R : List Ev) (z x : Ev) : ((((recV evV (D ++ z :: R)).set (D.length * 4) (.int .i64 x.1)).set (D.length * 4 + 1) (.int .i64 x.2.1)).set (D.length * 4 + 2) (.string ⟨x.2.2.1.toArray⟩)).set (D.length * 4 + 3) (.string ⟨x.2.2.2.toArray⟩) = recV evV (D ++ x :: R) := by
  have l := recV_length evV_len D
  have c : ∀ y, recV evV (D ++ y :: R) = recV evV D ++ (evV y ++ recV evV R) := fun y => by rw [recV_append, show y :: R = [y] ++ R from rfl, recV_append]; simp [recV]
  rw [c, c, List.set_append_right _ _ (by omega), List.set_append_right _ _ (by omega), List.set_append_right _ _ (by omega), List.set_append_right _ _ (by omega), l, show D.length * 4 - D.length * 4 = 0 by omega, show D.length * 4 + 1 - D.length * 4 = 1 by omega, show D.length * 4 + 2 - D.length * 4 = 2 by omega, show D.length * 4 + 3 - D.length * 4 = 3 by omega]
  rfl
theorem evs_set7 (L : List Ev) (i : Nat) (hi : i < L.length) (x : Ev) : ((((recV evV L).set (i * 4) (.int .i64 x.1)).set (i * 4 + 1) (.int .i64 x.2.1)).set (i * 4 + 2) (.string ⟨x.2.2.1.toArray⟩)).set (i * 4 + 3) (.string ⟨x.2.2.2.toArray⟩) = recV evV (L.set i x) := by
  have e : L = L.take i ++ L[i] :: L.drop (i + 1) := by rw [← List.drop_eq_getElem_cons hi, List.take_append_drop]
  have hl : (L.take i).length = i := by rw [List.length_take]; omega
  have h := evs_put7 (L.take i) (L.drop (i + 1)) L[i] x
  rw [← e, hl] at h
  rw [h, List.set_eq_take_append_cons_drop, if_pos hi]
/-- One event of a row set. -/
def putE (W : World) (g i : Nat) (x : Ev) : World := (((W.setCell ⟨g, i * 4, none⟩ (.int .i64 x.1)).setCell ⟨g, i * 4 + 1, none⟩ (.int .i64 x.2.1)).setCell ⟨g, i * 4 + 2, none⟩ (.string ⟨x.2.2.1.toArray⟩)).setCell ⟨g, i * 4 + 3, none⟩ (.string ⟨x.2.2.2.toArray⟩)
theorem putE_row {W : World} {B e g n cap i : Nat} {L : List Ev} (h : W.ownsRow B e 4 (.slice (some ⟨g, 0, none⟩) n cap) n (recV evV L)) (hi : i < L.length) (x : Ev) : (putE W g i x).ownsRow B e 4 (.slice (some ⟨g, 0, none⟩) n cap) n (recV evV (L.set i x)) := by
  have hs := ((((h.stored (i * 4) (.int .i64 x.1)).1.stored (i * 4 + 1) (.int .i64 x.2.1)).1.stored (i * 4 + 2) (.string ⟨x.2.2.1.toArray⟩)).1.stored (i * 4 + 3) (.string ⟨x.2.2.2.toArray⟩)).1
  rw [evs_set7 L i hi x] at hs
  exact hs
theorem putE_other (W : World) (g i : Nat) (x : Ev) (b : Nat) (hb : b ≠ g) : (putE W g i x).heap[b]? = W.heap[b]? := by
  unfold putE
  rw [Below.heap_setCell _ _ _ b hb, Below.heap_setCell _ _ _ b hb, Below.heap_setCell _ _ _ b hb, Below.heap_setCell _ _ _ b hb]
theorem putE_size (W : World) (g i : Nat) (x : Ev) : (putE W g i x).heap.size = W.heap.size := by simp [putE]
theorem putE_below {B : Nat} {A W : World} (h : Below B A W) (g i : Nat) (x : Ev) (hg : B ≤ g) : Below B A (putE W g i x) :=
  (((h.setCell (p := ⟨g, i * 4, none⟩) hg _).setCell (p := ⟨g, i * 4 + 1, none⟩) hg _).setCell (p := ⟨g, i * 4 + 2, none⟩) hg _).setCell (p := ⟨g, i * 4 + 3, none⟩) hg _
theorem putE_keeps (W : World) (g i : Nat) (x : Ev) : KeepsOthers W (putE W g i x) :=
  (((KeepsOthers.setCell W _ _).trans (KeepsOthers.setCell _ _ _)).trans (KeepsOthers.setCell _ _ _)).trans (KeepsOthers.setCell _ _ _)
/-- The cells of one event of a row. -/
theorem row_cells {W : World} {B e g n cap i : Nat} {L : List Ev} (h : W.ownsRow B e 4 (.slice (some ⟨g, 0, none⟩) n cap) n (recV evV L)) (hn : L.length = n) (hi : i < n) :
    ∃ y : Ev, (W.cell? ⟨g, i * 4, none⟩ = some (.int .i64 y.1) ∧ W.cell? ⟨g, i * 4 + 1, none⟩ = some (.int .i64 y.2.1) ∧ W.cell? ⟨g, i * 4 + 2, none⟩ = some (.string ⟨y.2.2.1.toArray⟩) ∧ W.cell? ⟨g, i * 4 + 3, none⟩ = some (.string ⟨y.2.2.2.toArray⟩)) ∧
      (W.frozen? ⟨g, i * 4, none⟩ = false ∧ W.frozen? ⟨g, i * 4 + 1, none⟩ = false ∧ W.frozen? ⟨g, i * 4 + 2, none⟩ = false ∧ W.frozen? ⟨g, i * 4 + 3, none⟩ = false) := by
  have hi' : i < L.length := by omega
  refine ⟨L[i], ⟨?_, ?_, ?_, ?_⟩, h.frozenAt _, h.frozenAt _, h.frozenAt _, h.frozenAt _⟩
  · have c := h.cellAt (i * 4) (by omega)
    rw [show i * 4 = i * 4 + 0 by omega, recV_get evV_len L i hi' 0 (by omega)] at c
    exact c
  · have c := h.cellAt (i * 4 + 1) (by omega)
    rw [recV_get evV_len L i hi' 1 (by omega)] at c
    exact c
  · have c := h.cellAt (i * 4 + 2) (by omega)
    rw [recV_get evV_len L i hi' 2 (by omega)] at c
    exact c
  · have c := h.cellAt (i * 4 + 3) (by omega)
    rw [recV_get evV_len L i hi' 3 (by omega)] at c
    exact c
theorem boxed_bel {W W' : World} {B b t : Nat} {v : Value} (h : Boxed W b t v) (hb : Below B W W') (hlt : b < B) : Boxed W' b t v := (hb.block b hlt).trans h
theorem sbox_bel {W W' : World} {B b t : Nat} {c : Array Value} (h : SBox W b t c) (hb : Below B W W') (hlt : b < B) : SBox W' b t c := (hb.block b hlt).trans h
theorem owns_bel {B C e k n g m cap : Nat} {xs : List Value} {w w' : World} (h : w.ownsRow B e k (.slice (some ⟨g, 0, none⟩) m cap) n xs) (hb : Below C w w') (hg : g < C) : w'.ownsRow B e k (.slice (some ⟨g, 0, none⟩) m cap) n xs := by
  obtain ⟨h1, h2⟩ := h
  refine ⟨h1, ?_⟩
  rcases h2 with h2 | ⟨g', cap', cur, hv, hbg, hg', r⟩
  · exact .inl h2
  · refine .inr ⟨g', cap', cur, hv, hbg, (hb.block g' ?_).trans hg', r⟩
    simp at hv
    omega
theorem ownFrom_of_below {β : Type} {B : Nat} {I : β → World → Prop} (hs : ∀ s W, I s W → B ≤ W.heap.size) (h : ∀ s W W', I s W → Below B W W' → I s W') : OwnFrom B I :=
  fun s W W' row hi hg hr => h s W W' hi ((Below.refl B W).grown hg (hs s W hi) (fun k e => (hr k e).1))
theorem ownFrom_false {β : Type} (B : Nat) : OwnFrom B (fun (_ : β) (_ : World) => False) := fun _ _ _ _ h _ _ => h
theorem wpListIn_make_full7 {F : Fence} {n : Nat} {P : Program} (w : World) {ops : Array Oper} {rest : List Oper} {o : Oper} {a : Act} {Q : Exit → Act → World → Prop}
    (hg : o.guard = none) (l c : Operand) (t : TypeId) (hop : o.op = Op.makeSlice t l c)
    (base : Nat) (e : TypeId) (i : TypeInfo) (z : Value) (size : Nat) (h1 : P.underlying t = some (.slice e)) (h2 : P.info? e = some i) (h3 : i.zero = some z) (h4 : i.size = size)
    (kl kc : IntKind) (L C : Int) (m : Nat) (hl : a.eval l = .int kl L) (hc : a.eval c = .int kc C) (hL : L = (m : Int)) (hC : C = (m : Int)) (b2 : i.bytes * m ≤ 281474976710656) (b3 : m ≤ maxLen) (b4 : base ≤ w.heap.size)
    (hK : ∀ w', w'.ownsRow base e size (.slice (some ⟨w.heap.size, 0, none⟩) m m) m (madeCells z.cells (m * size)).toList → w.grownBy w' none → wpListIn F n P ops Q rest (a.put o.dst (.slice (some ⟨w.heap.size, 0, none⟩) m m)) w') :
    wpListIn F n P ops Q (o :: rest) a w := by
  refine wpListIn_plain hg fun K hK' => ?_
  obtain ⟨w', hrun, r1, r2⟩ := run_make_full (P := P) w base t e i z size h1 h2 h3 h4 kl kc m b2 b3 b4
  subst hL
  subst hC
  unfold Oper.wpIn
  refine ⟨?_, ?_⟩
  · simp [Oper.about, hop]
  · rw [Oper.semAt_plain F _ _ (by rw [hop]; intro c hc'; cases hc')]
    simp [execOp, hop, hl, hc, hrun, Result.andThen]
    exact hK' _ _ (hK w' r1 r2)
end Go.Proofs.YtihggfkenhkglaaDoor
