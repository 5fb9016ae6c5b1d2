/-
  A region that draws its order, whose first operations only read, and whose later ones wait for them: the first ones in the text's order, then whatever order is left: of no program.
  A region that draws its order, some of whose operations read what nothing ahead of operation d changes (C): these first; then what is left, C being kept: of no program. And such a region in a round of a range over a function.
  Small facts for rounds of a range over a function: of no program.
  Rows of links (two texts an element), read, cut and grown: of no program.
-/
import Derived.Test.YtgickejfcmnaiaaDoorGC
import Derived.StillTail
import Derived.Orders
import Derived.RangeFuncCalls
import Derived.OrdersIn
import Derived.TacticsIn
import Derived.Test.YtgickejfcmnaiaaDoorGB
import Derived.RangeFuncNested
import Derived.RangeFuncBound
import Derived.RangeFuncLeaves
import Derived.RangeFuncBox
import Derived.Shelf.Abstract
import Derived.Shelf.RegionOpen
import Derived.OwnWalkIn
import Derived.TacticsInMore
import Derived.LoopNIn
import Derived.LoopIn
namespace Go.Proofs.YtgickejfcmnaiaaDoor
set_option maxRecDepth 100000
open Go.RowKit
set_option linter.unusedVariables false
section
variable {P : Program} {ops : Array Oper} {md : Region.Mode} {w : World}
/-- Each from m to n is waited for by a later one of these, or by all that are behind. -/
def waitB (md : Region.Mode) (ops : Array Oper) (m n : Nat) : Bool :=
  (List.range n).all fun i => decide (i < m) || ((List.range n).any fun j => decide (i < j) && Region.waitsFor md ops j i) || ((List.range ops.size).all fun t => decide (t < n) || Region.waitsFor md ops t i)
theorem behind_waits {m n : Nat} {listed : Array Bool} (hs : waitB md ops m n = true) (inv : HeadInv md ops n listed) :
    ∀ (d i : Nat), n - i = d → m ≤ i → i < n → listed.getD i true = false → ∀ t, n ≤ t → t ∉ Region.ready md ops listed := by
  intro d
  induction d using Nat.strongRecOn with
  | _ d ih =>
    intro i hd hmi hi hun t ht hr
    obtain ⟨_, ot, hot, hall⟩ := mem_ready.1 hr
    have htlt : t < ops.size := (Array.getElem?_eq_some_iff.1 hot).1
    have h1 := List.all_eq_true.1 hs i (List.mem_range.2 hi)
    rcases (by simpa only [Bool.or_eq_true] using h1 : (_ ∨ _) ∨ _) with (h2 | h2) | h2
    · have := of_decide_eq_true h2; omega
    · obtain ⟨j, hj, hj2⟩ := List.any_eq_true.1 h2
      have hjn := List.mem_range.1 hj
      simp only [Bool.and_eq_true, decide_eq_true_eq] at hj2
      obtain ⟨oj, hoj, e, he, hb, hon⟩ := Region.waitsFor_spec hj2.2
      cases hl : listed.getD j false with
      | true =>
        have h3 := inv.closed j oj hoj hl e he hb
        rw [hon, getD_both hun] at h3
        cases h3
      | false => exact ih (n - j) (by omega) j rfl (by omega) hjn (getD_in (by rw [inv.size]; omega) hl) t ht hr
    · have h3 := List.all_eq_true.1 h2 t (List.mem_range.2 htlt)
      simp only [Bool.or_eq_true, decide_eq_true_eq] at h3
      rcases h3 with h3 | h3
      · omega
      · obtain ⟨o', ho', e, he, hb, hon⟩ := Region.waitsFor_spec h3
        obtain rfl : o' = ot := Option.some.inj (ho'.symm.trans hot)
        have h4 := hall e he hb
        rw [hon, getD_both hun] at h4
        cases h4
theorem still_first {m n i : Nat} {oi : Oper} {v : Value} {L : Array Bool → Act → Prop} (hi : ops[i]? = some oi) (hsel : ∀ (j : Nat) (o : Oper) cs b, ops[j]? = some o → o.op ≠ .select cs b)
    (hs : waitB md ops m n = true) (hmi : m ≤ i) (hin : i < n) (hdone : ∀ listed a, L listed a → ∀ j ∈ Region.ready md ops listed, n ≤ j) :
    ∀ (f : Nat) (listed : Array Bool) (a : Act), HeadInv md ops n listed →
      (∀ j oj, ops[j]? = some oj → j ≠ i → listed.getD j true = false → (∀ e ∈ oj.after, Region.binds md e = true → e.on ≠ i) → oi.apart ops oj = true) →
      i ∈ Region.ready md ops listed → YieldsAt P ops w oi v a →
      wpAnyL P md ops w n L f (listed.setIfInBounds i true) (a.put oi.dst v) → wpAnyL P md ops w n L (f + 1) listed a := by
  intro f
  induction f with
  | zero =>
    intro listed a inv _ hr hy H
    have hun := (mem_ready.1 hr).1
    refine ⟨fun h => (by rw [h] at hr; cases hr), fun j hj => ?_⟩
    have hjn : j < n := Nat.lt_of_not_le fun h => behind_waits hs inv _ i rfl hmi hin hun j h hj
    refine ⟨hjn, ?_⟩
    by_cases hji : j = i
    · subst hji; exact hy.stOp hi H
    · have := hdone _ _ H j (ready_mono hj hji)
      omega
  | succ f ih =>
    intro listed a inv hfree hr hy H
    have hun := (mem_ready.1 hr).1
    refine ⟨fun h => (by rw [h] at hr; cases hr), fun j hj => ?_⟩
    have hjn : j < n := Nat.lt_of_not_le fun h => behind_waits hs inv _ i rfl hmi hin hun j h hj
    refine ⟨hjn, ?_⟩
    by_cases hji : j = i
    · subst hji; exact hy.stOp hi H
    · have h1 := (H.2 j (ready_mono hj hji)).2
      obtain ⟨hjun, oj, hoj, hall⟩ := mem_ready.1 hj
      have hnot : ∀ e ∈ oj.after, Region.binds md e = true → e.on ≠ i := fun e he hb heq => by
        have h1 := hall e he hb
        rw [heq, getD_both hun] at h1
        cases h1
      have h2 := stOp_put hoj (hfree j oj hoj hji hjun hnot) (fun cs b => hsel i oi cs b hi) (fun cs b => hsel j oj cs b hoj) hy h1
      refine stOp_mono (fun a' h3 => ih (listed.setIfInBounds j true) a' (inv.set hj hjn) (fun k ok hk hki hku hno => ?_) (ready_mono hr (Ne.symm hji)) h3.1 ?_) h2
      · refine hfree k ok hk hki ?_ hno
        by_cases hjk : j = k
        · subst hjk; exact hjun
        · rw [getD_set_ne true hjk] at hku; exact hku
      · rw [Array.setIfInBounds_comm _ _ hji]
        exact h3.2
/-- The first f from k on, one behind the other; then only later ones may come. -/
def lexH (md : Region.Mode) (ops : Array Oper) : Nat → Nat → Array Bool → Bool
  | 0, k, listed => (Region.ready md ops listed).all fun j => decide (k ≤ j)
  | f + 1, k, listed => (Region.ready md ops listed).contains k && Region.free md ops listed k && lexH md ops f (k + 1) (listed.setIfInBounds k true)
def setN : Nat → Nat → Array Bool → Array Bool
  | 0, _, listed => listed
  | f + 1, k, listed => setN f (k + 1) (listed.setIfInBounds k true)
theorem still_lex {m n : Nat} {Lq : Act → Prop} (hsel : Region.noSelect ops = true) (hs : waitB md ops m n = true) (E : Array Bool) (hE : ∀ j ∈ Region.ready md ops E, n ≤ j) :
    ∀ (l : List Oper) (k : Nat) (listed : Array Bool) (a : Act), m ≤ k → (∀ j, j < l.length → l[j]? = ops[k + j]?) → k + l.length = n → HeadInv md ops n listed →
    lexH md ops l.length k listed = true → setN l.length k listed = E → wpStill P ops w Lq l a →
    wpAnyL P md ops w n (fun listed' a' => listed' = E ∧ Lq a') l.length listed a
  | [], k, listed, a, _, _, hk, _, hB, he, h => ⟨he, h⟩
  | o :: l, k, listed, a, hmk, hl, hk, inv, hB, he, h => by
    have h0 : ops[k]? = some o := by simpa using (hl 0 (by simp)).symm
    simp only [List.length_cons, lexH, Bool.and_eq_true] at hB
    obtain ⟨⟨hr, hf⟩, hB'⟩ := hB
    have hkn : k < n := by simp only [List.length_cons] at hk; omega
    have hr' : k ∈ Region.ready md ops listed := by simpa using hr
    have hst : stOp P ops w k (wpStill P ops w Lq l) a := by unfold stOp; simp only [h0]; exact h
    obtain ⟨v, hy, hK⟩ := yieldsAt_of_stOp h0 hst
    exact still_first h0 (Region.noSelect_spec hsel) hs hmk hkn (fun listed' a' hL => by rw [hL.1]; exact hE) l.length listed a inv (Region.free_spec h0 hf) hr' hy
      (still_lex hsel hs E hE l (k + 1) _ _ (by omega) (fun j hj => by have := hl (j + 1) (by simp; omega); simpa [Nat.add_assoc, Nat.add_comm 1 j] using this) (by simp only [List.length_cons] at hk; omega) (inv.set hr' hkn) hB' he hK)
def invB (md : Region.Mode) (ops : Array Oper) (n : Nat) (listed : Array Bool) : Bool :=
  decide (listed.size = ops.size) && ((List.range ops.size).all fun j => (!listed.getD j false) || (match ops[j]? with | some oj => oj.after.all fun e => (!Region.binds md e) || listed.getD e.on false | none => true)) && ((List.range ops.size).all fun t => decide (t < n) || !listed.getD t true)
theorem invB_spec {n : Nat} {listed : Array Bool} (h : invB md ops n listed = true) : HeadInv md ops n listed := by
  simp only [invB, Bool.and_eq_true, decide_eq_true_eq] at h
  obtain ⟨⟨h1, h2⟩, h3⟩ := h
  refine ⟨h1, fun j oj hj hl e he hb => ?_, fun t ht ht' => ?_⟩
  · have hjl : j < ops.size := (Array.getElem?_eq_some_iff.1 hj).1
    have h4 := List.all_eq_true.1 h2 j (List.mem_range.2 hjl)
    rw [hl, hj] at h4
    simp only [Bool.not_true, Bool.false_or] at h4
    have h5 := Array.all_eq_true'.1 h4 e he
    rw [hb] at h5
    simpa using h5
  · have h4 := List.all_eq_true.1 h3 t (List.mem_range.2 ht')
    simp only [Bool.or_eq_true, decide_eq_true_eq, Bool.not_eq_true'] at h4
    rcases h4 with h4 | h4
    · omega
    · exact h4
def headB (md : Region.Mode) (ops : Array Oper) (m n : Nat) (listed : Array Bool) : Bool :=
  Region.noSelect ops && decide (m ≤ n) && decide (n < ops.size) && waitB md ops m n && lexH md ops (n - m) m listed && invB md ops n listed && (Region.ready md ops (setN (n - m) m listed)).all fun j => decide (n ≤ j)
/-- Those from m to n in the text's order, in the world as it is; then what is left, in whatever order. -/
theorem any_head {Q : Exit → Act → World → Prop} {a : Act} {w : World} {l : List Oper} {listed : Array Bool} (m n g : Nat) (hB : headB .any l.toArray m n listed = true)
    (h : wpStill P l.toArray w (fun a' => wpAny P .any l.toArray Q g (setN (n - m) m listed) a' w) ((l.drop m).take (n - m)) a) : wpAny P .any l.toArray Q (n - m + g) listed a w := by
  simp only [headB, Bool.and_eq_true, decide_eq_true_eq] at hB
  obtain ⟨⟨⟨⟨⟨⟨hsel, hmn⟩, hn⟩, hs⟩, hlex⟩, hinv⟩, hE⟩ := hB
  have hn' : n < l.length := by simpa using hn
  have htl : ((l.drop m).take (n - m)).length = n - m := by simp; omega
  have H := still_lex (md := .any) hsel hs (setN (n - m) m listed) (fun j hj => by simpa using List.all_eq_true.1 hE j hj) ((l.drop m).take (n - m)) m _ a (Nat.le_refl _) (fun j hj => by
    have hj' : j < n - m := by rw [htl] at hj; exact hj
    simp [hj', List.getElem?_drop]) (by omega) (invB_spec hinv) (by rw [htl]; exact hlex) (by rw [htl]) h
  have := wpAny_of_head (Q' := Q) (g := g) (fun listed a' hL => by rw [hL.1]; exact hL.2) _ _ _ H
  rw [htl] at this
  exact this
/-- What is left has one order. -/
def seqI (md : Region.Mode) (ops : Array Oper) : List Nat → Array Bool → Bool
  | [], listed => (Region.ready md ops listed).isEmpty
  | i :: is, listed => decide (Region.ready md ops listed = [i]) && seqI md ops is (listed.setIfInBounds i true)
theorem any_seqI {Q : Exit → Act → World → Prop} : ∀ (is : List Nat) (l : List Oper) (listed : Array Bool) (a : Act) (w : World), l.map some = is.map (fun i => ops[i]?) → seqI md ops is listed = true → wpList P ops Q l a w → wpAny P md ops Q is.length listed a w
  | [], l, listed, a, w, hl, hB, h => by
    obtain rfl : l = [] := by cases l <;> simp_all
    exact ⟨by simpa [seqI] using hB, h⟩
  | i :: is, l, listed, a, w, hl, hB, h => by
    match l, hl, h with
    | o :: l, hl, h =>
      simp only [List.map_cons, List.cons.injEq] at hl
      simp only [seqI, Bool.and_eq_true, decide_eq_true_eq] at hB
      refine ⟨fun h1 => (by rw [hB.1] at h1; cases h1), fun j hj => ?_⟩
      rw [hB.1] at hj
      obtain rfl : j = i := by simpa using hj
      have hw : wpOp P ops Q j (wpList P ops Q l) a w := by unfold wpOp; rw [← hl.1]; exact h
      exact wpOp_mono (fun a' w' h' => any_seqI is l _ a' w' hl.2 hB.2 h') hw
end
end Go.Proofs.YtgickejfcmnaiaaDoor
namespace Go.Proofs.YtgickejfcmnaiaaDoor
set_option maxRecDepth 100000
open Go.RowKit
set_option linter.unusedVariables false
section
variable {P : Program} {ops : Array Oper} {md : Region.Mode} {Q : Exit → Act → World → Prop}
def wpAnyC (C : World → Prop) (d : Nat) (P : Program) (md : Region.Mode) (ops : Array Oper) (Q : Exit → Act → World → Prop) : Nat → Array Bool → Act → World → Prop
  | 0, listed, a, w => wpAny P md ops Q 0 listed a w ∧ (listed.getD d false = false → C w)
  | f + 1, listed, a, w => (listed.getD d false = true ∧ wpAny P md ops Q (f + 1) listed a w) ∨
      (listed.getD d false = false ∧ C w ∧ (Region.ready md ops listed = [] → Q .normal a w) ∧ ∀ i ∈ Region.ready md ops listed, wpOp P ops Q i (wpAnyC C d P md ops Q f (listed.setIfInBounds i true)) a w)
theorem any_of_C {C : World → Prop} (d : Nat) : ∀ (f : Nat) (listed : Array Bool) (a : Act) (w : World), wpAnyC C d P md ops Q f listed a w → wpAny P md ops Q f listed a w
  | 0, _, _, _, h => h.1
  | f + 1, listed, a, w, h => by
    rcases h with h | ⟨_, _, h1, h2⟩
    · exact h.2
    · exact ⟨h1, fun i hi => wpOp_mono (fun a' w' h' => any_of_C d f _ a' w' h') (h2 i hi)⟩
/-- An operation that yields one value in whatever world keeps C. -/
def YieldsC (C : World → Prop) (P : Program) (ops : Array Oper) (o : Oper) (v : Value) (a : Act) : Prop :=
  (Region.wanted o (yielded ops a.tmps) = true ∧ ∀ w, C w → (execOp a.eval o).run P w = .ok (.value v) w) ∨ (Region.wanted o (yielded ops a.tmps) = false ∧ v = undef)
theorem YieldsC.op {C : World → Prop} {i : Nat} {o : Oper} {v : Value} {a : Act} (hi : ops[i]? = some o) (hy : YieldsC C P ops o v a) {K : Act → World → Prop} {w : World} (hC : C w) (h : K (a.put o.dst v) w) : wpOp P ops Q i K a w := by
  unfold wpOp
  simp only [hi]
  rcases hy with ⟨hw, hv⟩ | ⟨hw, rfl⟩
  · simp only [hw, if_true, Oper.wp, hv w hC, Oper.upon]; exact .inl h
  · simp only [hw, Bool.false_eq_true, if_false]; exact h
theorem YieldsC.same {C : World → Prop} {o : Oper} {v : Value} {a a' : Act} (hy : YieldsC C P ops o v a) (he : execOp a'.eval o = execOp a.eval o) (hw : Region.wanted o (yielded ops a'.tmps) = Region.wanted o (yielded ops a.tmps)) : YieldsC C P ops o v a' := by
  unfold YieldsC at *
  rw [he, hw]
  exact hy
theorem wpOp_putC {C : World → Prop} {j : Nat} {oi oj : Oper} {v : Value} (hj : ops[j]? = some oj) (hap : oi.apart ops oj = true)
    (hsi : ∀ cs b, oi.op ≠ .select cs b) (hsj : ∀ cs b, oj.op ≠ .select cs b)
    (hQ : ∀ c a w, Q (.panic c) (a.put oi.dst v) w → Q (.panic c) a w) {K : Act → World → Prop} {a : Act} {w : World}
    (hy : YieldsC C P ops oi v a) (h : wpOp P ops Q j K (a.put oi.dst v) w) :
    wpOp P ops Q j (fun a' w' => YieldsC C P ops oi v a' ∧ K (a'.put oi.dst v) w') a w := by
  obtain ⟨h1, h2, h3⟩ := Oper.apart_spec hap
  have keep : ∀ (a : Act), YieldsC C P ops oi v a → ∀ u, YieldsC C P ops oi v (a.put oj.dst u) := fun a hy u => hy.same (execOp_put oi hsi a oj.dst u h3) (wanted_put oi a oj.dst u h3)
  have keepD : ∀ d, YieldsC C P ops oi v { a with defers := d :: a.defers } := fun d => hy.same rfl rfl
  unfold wpOp at *
  simp only [hj] at *
  rw [wanted_put oj a oi.dst v h1] at h
  by_cases hw : Region.wanted oj (yielded ops a.tmps) = true
  · rw [if_pos hw] at h ⊢
    rcases h with h | ⟨hasks, hlets⟩
    case inr => exact .inr ⟨by unfold Oper.asks at *; rw [execOp_put oj hsj a oi.dst v h1] at hasks; exact hasks, hlets⟩
    refine .inl ?_
    unfold Oper.wp at *
    rw [execOp_put oj hsj a oi.dst v h1] at h
    generalize (execOp a.eval oj).run P w = r at *
    cases r with
    | ok n w' =>
      cases n <;> simp only [Oper.upon] at h ⊢
      case value u => exact ⟨keep a hy u, by rw [← Act.put_comm a v u h2]; exact h⟩
      case skip => exact ⟨keep a hy _, by rw [← Act.put_comm a v undef h2]; exact h⟩
      case defer d =>
        refine ⟨keep _ (keepD d) _, ?_⟩
        rw [← Act.put_comm _ v undef h2, ← Act.put_defers]
        exact h
      case enter f args =>
        refine Calls.mono h fun e w'' he => ?_
        cases e with
        | returned u => exact ⟨keep a hy u, by rw [← Act.put_comm a v u h2]; exact he⟩
        | panicked c => exact hQ _ _ _ he
        | outgrown => exact he
      case row row args => exact Rows.mono h fun u w'' he => ⟨keep a hy u, by rw [← Act.put_comm a v u h2]; exact he⟩
    | halt x w' =>
      cases x <;> simp only [Oper.upon] at h ⊢
      case panic u => exact hQ _ _ _ h
  · rw [if_neg hw] at h ⊢
    exact ⟨keep a hy _, by rw [← Act.put_comm a v undef h2]; exact h⟩
theorem firstC {C : World → Prop} {d i : Nat} {oi : Oper} {v : Value} (hi : ops[i]? = some oi) (hsel : ∀ (j : Nat) (o : Oper) cs b, ops[j]? = some o → o.op ≠ .select cs b)
    (hdw : Region.waitsFor md ops d i = true) (hQ : ∀ c a w, Q (.panic c) (a.put oi.dst v) w → Q (.panic c) a w) :
    ∀ (f : Nat) (listed : Array Bool) (a : Act) (w : World), listed.getD d false = false →
      (∀ j oj, ops[j]? = some oj → j ≠ i → listed.getD j true = false → (∀ e ∈ oj.after, Region.binds md e = true → e.on ≠ i) → oi.apart ops oj = true) →
      i ∈ Region.ready md ops listed → YieldsC C P ops oi v a →
      wpAnyC C d P md ops Q f (listed.setIfInBounds i true) (a.put oi.dst v) w → wpAnyC C d P md ops Q (f + 1) listed a w := by
  have hnd : ∀ (listed : Array Bool) j, i ∈ Region.ready md ops listed → j ∈ Region.ready md ops listed → j ≠ d := fun listed j hr hj hjd => by
    subst hjd
    obtain ⟨o', ho', e, he, hb, hon⟩ := Region.waitsFor_spec hdw
    obtain ⟨_, oj, hoj, hall⟩ := mem_ready.1 hj
    obtain rfl : o' = oj := Option.some.inj (ho'.symm.trans hoj)
    have h4 := hall e he hb
    rw [hon, getD_both (mem_ready.1 hr).1] at h4
    cases h4
  intro f
  induction f with
  | zero =>
    intro listed a w hdl _ hr hy H
    have hid : i ≠ d := hnd listed i hr hr
    refine .inr ⟨hdl, H.2 (by rw [getD_set_ne false hid]; exact hdl), fun h => (by rw [h] at hr; cases hr), fun j hj => ?_⟩
    by_cases hji : j = i
    · subst hji; exact hy.op hi (H.2 (by rw [getD_set_ne false hid]; exact hdl)) H
    · have := ready_mono hj hji
      rw [H.1.1] at this
      cases this
  | succ f ih =>
    intro listed a w hdl hfree hr hy H
    have hid : i ≠ d := hnd listed i hr hr
    rcases H with H | H
    · rw [getD_set_ne false hid, hdl] at H; cases H.1
    · obtain ⟨hd1, hC, hn, H⟩ := H
      refine .inr ⟨hdl, hC, fun h => (by rw [h] at hr; cases hr), fun j hj => ?_⟩
      by_cases hji : j = i
      · subst hji; exact hy.op hi hC (.inr ⟨hd1, hC, hn, H⟩)
      · have h1 := H j (ready_mono hj hji)
        obtain ⟨hjun, oj, hoj, hall⟩ := mem_ready.1 hj
        have hnot : ∀ e ∈ oj.after, Region.binds md e = true → e.on ≠ i := fun e he hb heq => by
          have h1 := hall e he hb
          rw [heq, getD_both (mem_ready.1 hr).1] at h1
          cases h1
        have h2 := wpOp_putC hoj (hfree j oj hoj hji hjun hnot) (fun cs b => hsel i oi cs b hi) (fun cs b => hsel j oj cs b hoj) hQ hy h1
        refine wpOp_mono (fun a' w' h3 => ih (listed.setIfInBounds j true) a' w' (by rw [getD_set_ne false (hnd listed j hr hj)]; exact hdl) (fun k ok hk hki hku hno => ?_) (ready_mono hr (Ne.symm hji)) h3.1 ?_) h2
        · refine hfree k ok hk hki ?_ hno
          by_cases hjk : j = k
          · subst hjk; exact hjun
          · rw [getD_set_ne true hjk] at hku; exact hku
        · rw [Array.setIfInBounds_comm _ _ hji]
          exact h3.2
/-- Operation i first: it yields v as long as C holds, which it does until operation d, which waits for i. -/
theorem takeC {C : World → Prop} {d i : Nat} {oi : Oper} {v : Value} {f : Nat} {listed : Array Bool} {a : Act} {w : World} (hi : ops[i]? = some oi)
    (hs : Region.noSelect ops = true) (hf : Region.free md ops listed i = true) (hr : (Region.ready md ops listed).contains i = true) (hdw : Region.waitsFor md ops d i = true) (hdl : listed.getD d false = false)
    (hQ : ∀ c a w, Q (.panic c) (a.put oi.dst v) w → Q (.panic c) a w) (hy : YieldsC C P ops oi v a)
    (h : wpAnyC C d P md ops Q f (listed.setIfInBounds i true) (a.put oi.dst v) w) : wpAnyC C d P md ops Q (f + 1) listed a w :=
  firstC hi (Region.noSelect_spec hs) hdw hQ f listed a w hdl (Region.free_spec hi hf) (by simpa using hr) hy h
theorem wpOp_of_list {i : Nat} {o : Oper} {K : Act → World → Prop} {a : Act} {w : World} (ho : ops[i]? = some o) (h : wpList P ops (Exit.then K Q) [o] a w) : wpOp P ops Q i K a w := by
  unfold wpOp
  simp only [ho]
  simp only [wpList] at h
  by_cases hw : Region.wanted o (yielded ops a.tmps) = true
  · rw [if_pos hw] at h ⊢
    rcases h with h | ⟨h1, a0, w0, h2⟩
    · refine .inl ?_
      unfold Oper.wp at *
      generalize (execOp a.eval o).run P w = r at *
      cases r with
      | ok n w' =>
        cases n <;> simp only [Oper.upon] at h ⊢
        case value u => exact h
        case skip => exact h
        case defer d => exact h
        case enter f args =>
          refine Calls.mono h fun e w'' he => ?_
          cases e with
          | returned u => exact he
          | panicked c => exact he
          | outgrown => exact he
        case row row args => exact h
      | halt x w' =>
        cases x <;> simp only [Oper.upon] at h ⊢
        case panic u => exact h
    · exact .inr ⟨h1, a0, w0, h2⟩
  · rw [if_neg hw] at h ⊢
    exact h
/-- The one that may come next. -/
theorem consC {C : World → Prop} {d i : Nat} {o : Oper} {f : Nat} {listed : Array Bool} {a : Act} {w : World} (hr : Region.ready md ops listed = [i]) (hdl : listed.getD d false = false) (hC : C w) (ho : ops[i]? = some o)
    (h : ∀ K : Act → World → Prop, (∀ a w, wpAnyC C d P md ops Q f (listed.setIfInBounds i true) a w → K a w) → wpList P ops (Exit.then K Q) [o] a w) : wpAnyC C d P md ops Q (f + 1) listed a w := by
  refine .inr ⟨hdl, hC, fun h0 => (by rw [hr] at h0; cases h0), fun j hj => ?_⟩
  rw [hr] at hj
  obtain rfl : j = i := by simpa using hj
  exact wpOp_of_list ho (h _ fun _ _ h => h)
/-- Operation d is next: what is left, in its one order. -/
theorem lastC {C : World → Prop} {d : Nat} {f : Nat} {listed : Array Bool} {a : Act} {w : World} (hr : Region.ready md ops listed = [d]) (hdl : listed.getD d false = false) (hC : C w) (hlt : d < listed.size)
    (h : wpAny P md ops Q (f + 1) listed a w) : wpAnyC C d P md ops Q (f + 1) listed a w := by
  refine .inr ⟨hdl, hC, h.1, fun j hj => ?_⟩
  have hj' := hj
  rw [hr] at hj'
  obtain rfl : j = d := by simpa using hj'
  refine wpOp_mono (fun a' w' h' => ?_) (h.2 j hj)
  have hd : (listed.setIfInBounds j true).getD j false = true := by simp [hlt]
  cases f with
  | zero => exact ⟨h', fun h0 => by rw [hd] at h0; cases h0⟩
  | succ f => exact .inl ⟨hd, h'⟩
theorem rowsIn_of {l n : Nat} {row : String} {args : Array Value} {w : World} {R : Value → World → Prop} (h : Rows P row args w R) : RowsIn (Fence.wide.inRound l) n P row args w R :=
  fun c cs _ => let ⟨v, w', r, s⟩ := h c cs; ⟨v, w', r, stepsIn_wide.2 s⟩
def noDefer (ops : Array Oper) : Bool := ops.all fun o => match o.op with | .defer _ => false | _ => true
theorem noDefer_spec (h : noDefer ops = true) (j : Nat) (o : Oper) (ho : ops[j]? = some o) : ∀ c, o.op ≠ .defer c := by
  intro c heq
  have := Array.all_eq_true_iff_forall_mem.1 h o (Array.mem_of_getElem? ho)
  simp [heq] at this
theorem opIn_of {l n : Nat} {o : Oper} {a : Act} {w : World} {K : Act → World → Prop} (hnd : ∀ c, o.op ≠ .defer c) (h : o.wp P a w K Q) : o.wpIn (Fence.wide.inRound l) n P a w K Q := by
  unfold Oper.wpIn
  refine ⟨fun _ _ => trivial, ?_⟩
  rw [show (Fence.wide.inRound l).round = some l from rfl, Oper.semAt_some l _ o hnd]
  unfold Oper.wp at h
  generalize (execOp a.eval o).run P w = r at *
  cases r with
  | ok n w' =>
    cases n <;> simp only [Oper.upon, Oper.uponIn] at h ⊢
    case value u => exact h
    case skip => exact h
    case defer d => exact h
    case enter f args => exact ⟨fun h0 => (by cases h0), CallsIn.inRound l (callsIn_wide.2 h)⟩
    case row row args => exact ⟨fun h0 => (by cases h0), rowsIn_of h⟩
  | halt x w' =>
    cases x <;> simp only [Oper.upon, Oper.uponIn] at h ⊢
    case panic u => exact h
/-- A region in a round, as anywhere. -/
theorem anyIn_of {l n : Nat} (hlo : ¬ LetsOut Q) (hnd : noDefer ops = true) : ∀ (f : Nat) (listed : Array Bool) (a : Act) (w : World), wpAny P md ops Q f listed a w → wpAnyIn (Fence.wide.inRound l) n P md ops Q f listed a w
  | 0, _, _, _, h => h
  | f + 1, listed, a, w, h => by
    refine ⟨h.1, fun i hi => ?_⟩
    have h1 := h.2 i hi
    unfold wpOp at h1
    unfold wpOpIn
    cases ho : ops[i]? with
    | none => simp only [ho] at h1 ⊢; exact anyIn_of hlo hnd f _ _ _ h1
    | some o =>
      simp only [ho] at h1 ⊢
      by_cases hw : Region.wanted o (yielded ops a.tmps) = true
      · rw [if_pos hw] at h1 ⊢
        rcases h1 with h1 | h1
        · exact Oper.wpIn_mono (fun a' w' h' => anyIn_of hlo hnd f _ a' w' h') (opIn_of (noDefer_spec hnd i o ho) h1)
        · exact absurd h1.2 hlo
      · rw [if_neg hw] at h1 ⊢
        exact ⟨fun _ _ => trivial, anyIn_of hlo hnd f _ _ _ h1⟩
theorem regionIn_any {l n id : Nat} {a : Act} {w : World} (hm : P.follows .mixedOrders = true) (hlo : ¬ LetsOut Q) (hnd : noDefer ops = true)
    (h : wpAny P .any ops Q ops.size (Array.replicate ops.size false) a w.drew) : (Code.region id ops true).wpIn (Fence.wide.inRound l) n P Q a w :=
  wpIn_region_any hm (anyIn_of hlo hnd _ _ _ _ h)
/-- Operations in their order, in a round, as anywhere. -/
theorem listIn_of {l n : Nat} (hlo : ¬ LetsOut Q) : ∀ (L : List Oper) (a : Act) (w : World), (∀ o ∈ L, ∀ c, o.op ≠ .defer c) → wpList P ops Q L a w → wpListIn (Fence.wide.inRound l) n P ops Q L a w
  | [], _, _, _, h => h
  | o :: L, a, w, hnd, h => by
    simp only [wpList] at h
    simp only [wpListIn]
    by_cases hw : Region.wanted o (yielded ops a.tmps) = true
    · rw [if_pos hw] at h ⊢
      rcases h with h | h
      · exact Oper.wpIn_mono (fun a' w' h' => listIn_of hlo L a' w' (fun o' h' => hnd o' (List.mem_cons_of_mem _ h')) h') (opIn_of (hnd o (List.mem_cons_self ..)) h)
      · exact absurd h.2 hlo
    · rw [if_neg hw] at h ⊢
      exact ⟨fun _ _ => trivial, listIn_of hlo L _ _ (fun o' h' => hnd o' (List.mem_cons_of_mem _ h')) h⟩
end
end Go.Proofs.YtgickejfcmnaiaaDoor
namespace Go.Proofs.YtgickejfcmnaiaaDoor
set_option maxRecDepth 100000
open Go.RowKit Go.Shelf
set_option linter.unusedVariables false
theorem cell_al {W : World} {a : Addr} {v : Value} (o : Obj) (h : W.cell? a = some v) : (W.alloc o).cell? a = some v := cell_kept h (World.grownBy_alloc W o none) (fun r e => by cases e)
theorem owns_low {w : World} {B B' e k n : Nat} {v : Value} {xs : List Value} (h : w.ownsRow B e k v n xs) (hb : B' ≤ B) : w.ownsRow B' e k v n xs := by
  obtain ⟨h1, h2⟩ := h
  refine ⟨h1, ?_⟩
  rcases h2 with h2 | ⟨g, cap, cur, hv, hbg, r⟩
  · exact .inl h2
  · exact .inr ⟨g, cap, cur, hv, by omega, r⟩
/-- What leaves all that lay leaves all that is no cells. -/
theorem keeps_of_below {W W' : World} (h : Below W.heap.size W W') : KeepsOthers W W' :=
  ⟨h.size, fun k o hk _ => (h.block k (Array.getElem?_eq_some_iff.1 hk).1).trans hk⟩
theorem boxed_below {W W' : World} {B t : Nat} {v : Value} (h : Boxed W B t v) (hb : Below W.heap.size W W') : Boxed W' B t v := (hb.block B h.lt).trans h
/-- A block of cells lies on where only what is no cells is turned. -/
theorem block_kept {W W' : World} {row : Option Nat} {B t : Nat} {c : Array Value} (h : W.heap[B]? = some (.cells c t (0, 0))) (hg : W.grownBy W' row) (hr : ∀ r, row = some r → ∃ o : Obj, W.heap[r]? = some o ∧ o.isCells = false) : W'.heap[B]? = some (.cells c t (0, 0)) :=
  (hg.block B (Array.getElem?_eq_some_iff.1 h).1 (fun e => by obtain ⟨o, ho, hc⟩ := hr B e.symm; rw [h] at ho; cases ho; cases hc)).trans h
/-- A block of cells of another type is no owned row's. -/
theorem block_not_row {W : World} {B t e : Nat} {c : Array Value} (h : W.heap[B]? = some (.cells c t (0, 0))) (hte : t ≠ e) {base size k : Nat} {v : Value} {xs : List Value} (hr : W.ownsRow base e size v k xs) : some B ≠ v.ownBlock := by
  rcases hr.2 with ⟨rfl, _⟩ | ⟨g, cap, cur, rfl, _, hgb, _⟩
  · simp [Value.ownBlock]
  · intro e'
    obtain rfl : B = g := by simpa [Value.ownBlock] using e'
    rw [h] at hgb
    simp at hgb
    exact hte hgb.2
theorem cell_of_block {W : World} {B t : Nat} {c : Array Value} {f : Nat × Nat} (h : W.heap[B]? = some (.cells c t f)) (j : Nat) : W.cell? ⟨B, j, none⟩ = c[j]? := by simp [World.cell?, h]
end Go.Proofs.YtgickejfcmnaiaaDoor
namespace Go.Proofs.YtgickejfcmnaiaaDoor
set_option maxRecDepth 100000
open Go.RowKit
set_option linter.unusedVariables false
abbrev Lk := List UInt8 × List UInt8
/-- A slice of n links: each of its pairs of cells holds both texts. -/
def IsLnk (w : World) (v : Value) (L : List Lk) : Prop :=
  ∃ a n cap, v = .slice a n cap ∧ L.length = n ∧ n ≤ cap ∧ cap ≤ 9223372036854775807 ∧ n ≤ 140737488351232 ∧ (∀ s ∈ L, s.1.length ≤ 1125899906842624 ∧ s.2.length ≤ 1125899906842624) ∧
  (n = 0 ∨ ∃ b off, a = some ⟨b, off, none⟩ ∧ b < w.heap.size ∧ ∀ i (h : i < L.length), w.cell? ⟨b, off + i * 2, none⟩ = some (.string ⟨L[i].1.toArray⟩) ∧ w.cell? ⟨b, off + i * 2 + 1, none⟩ = some (.string ⟨L[i].2.toArray⟩))
theorem IsLnk.below {w w' : World} {v : Value} {L : List Lk} (h : IsLnk w v L) (hb : Below w.heap.size w w') : IsLnk w' v L := by
  obtain ⟨a, n, cap, hv, h1, h2, h3, h4, h5, h6⟩ := h
  refine ⟨a, n, cap, hv, h1, h2, h3, h4, h5, ?_⟩
  rcases h6 with h6 | ⟨b, off, ha, hlt, hc⟩
  · exact .inl h6
  · refine .inr ⟨b, off, ha, Nat.lt_of_lt_of_le hlt hb.size, fun i hi => ?_⟩
    rw [hb.cell (p := ⟨b, off + i * 2, none⟩) hlt, hb.cell (p := ⟨b, off + i * 2 + 1, none⟩) hlt]
    exact hc i hi
theorem IsLnk.bound {w : World} {v : Value} {L : List Lk} (h : IsLnk w v L) : ∀ s ∈ L, s.1.length ≤ 1125899906842624 ∧ s.2.length ≤ 1125899906842624 := by
  obtain ⟨a, n, cap, rfl, rfl, h2, h3, h4, h5, h6⟩ := h
  exact h5
theorem IsLnk.some_at {w : World} {v : Value} {L : List Lk} (h : IsLnk w v L) : ∃ a cap, v = .slice a L.length cap ∧ L.length ≤ cap ∧ cap ≤ 9223372036854775807 ∧ L.length ≤ 140737488351232 ∧ Hid (∀ k (h : k < L.length), ∃ b off, a = some ⟨b, off, none⟩ ∧ b < w.heap.size ∧ w.cell? ⟨b, off + k * 2, none⟩ = some (.string ⟨L[k].1.toArray⟩) ∧ w.cell? ⟨b, off + k * 2 + 1, none⟩ = some (.string ⟨L[k].2.toArray⟩)) := by
  obtain ⟨a, n, cap, rfl, rfl, h2, h3, h4, h5, h6⟩ := h
  refine ⟨a, cap, rfl, h2, h3, h4, ?_⟩
  intro k hk
  rcases h6 with h6 | ⟨b, off, rfl, hlt, hc⟩
  · omega
  · exact ⟨b, off, rfl, hlt, hc k hk⟩
theorem IsLnk.nil (w : World) : IsLnk w (.slice none 0 0) [] := ⟨none, 0, 0, rfl, rfl, by omega, by omega, by omega, (fun s hs => by cases hs), .inl rfl⟩
theorem IsLnk.take {w : World} {a : Option Addr} {cap : Nat} {L : List Lk} (h : IsLnk w (.slice a L.length cap) L) (k : Nat) (hk : k ≤ L.length) : IsLnk w (.slice a k cap) (L.take k) := by
  obtain ⟨a', n, c, hv, h1, h2, h3, h4, h5, h6⟩ := h
  obtain ⟨rfl, rfl, rfl⟩ : a' = a ∧ n = L.length ∧ c = cap := by simpa [eq_comm] using hv
  refine ⟨_, _, _, rfl, by simp; omega, by omega, h3, by omega, fun s hs => h5 s (List.mem_of_mem_take hs), ?_⟩
  rcases h6 with h6 | ⟨b, off, ha, hlt, hc⟩
  · exact .inl (by omega)
  · refine .inr ⟨b, off, ha, hlt, fun i hi => ?_⟩
    simp only [List.length_take] at hi
    rw [List.getElem_take]
    exact hc i (by omega)
/-- The cells of a row of links. -/
def lnkV : List Lk → List Value
  | [] => []
  | x :: l => .string ⟨x.1.toArray⟩ :: .string ⟨x.2.toArray⟩ :: lnkV l
theorem lnkV_length : ∀ l, (lnkV l).length = l.length * 2
  | [] => rfl
  | x :: l => by rw [lnkV, List.length_cons, List.length_cons, lnkV_length l, List.length_cons]; omega
theorem lnkV_append : ∀ l m, lnkV (l ++ m) = lnkV l ++ lnkV m
  | [], m => rfl
  | x :: l, m => by rw [List.cons_append, lnkV, lnkV, lnkV_append l m]; rfl
theorem lnkV_snoc (l : List Lk) (x : Lk) : lnkV (l ++ [x]) = lnkV l ++ [.string ⟨x.1.toArray⟩, .string ⟨x.2.toArray⟩] := by rw [lnkV_append]; rfl
theorem lnkV_get : ∀ (l : List Lk) (i : Nat) (h : i < l.length), (lnkV l)[i * 2]? = some (.string ⟨l[i].1.toArray⟩) ∧ (lnkV l)[i * 2 + 1]? = some (.string ⟨l[i].2.toArray⟩)
  | [], i, h => by simp at h
  | x :: l, 0, h => ⟨rfl, rfl⟩
  | x :: l, i + 1, h => by
    have := lnkV_get l i (by simp at h; omega)
    rw [show (i + 1) * 2 = i * 2 + 2 by omega, lnkV]
    simpa using this
theorem lnkV_one (l : List Lk) : ∀ u ∈ lnkV l, u.oneCell' = true := by
  induction l with
  | nil => intro u hu; cases hu
  | cons x l ih =>
    intro u hu
    rw [lnkV] at hu
    rcases List.mem_cons.1 hu with rfl | hu
    · rfl
    · rcases List.mem_cons.1 hu with rfl | hu
      · rfl
      · exact ih u hu
/-- What is owned reads as a slice of links. -/
theorem IsLnk.own {w : World} {B e : Nat} {v : Value} {n : Nat} {l : List Lk} (h : w.ownsRow B e 2 v n (lnkV l)) (hn : n ≤ 140737488351232) (hl : ∀ t ∈ l, t.1.length ≤ 1125899906842624 ∧ t.2.length ≤ 1125899906842624) : IsLnk w v l := by
  obtain ⟨h1, h2⟩ := h
  rw [lnkV_length] at h1
  rcases h2 with ⟨rfl, rfl⟩ | ⟨g, cap, cur, rfl, hbg, hg, hnc, hcm, hcs, htake⟩
  · obtain rfl : l = [] := List.length_eq_zero_iff.1 (by omega)
    exact IsLnk.nil w
  · refine ⟨_, _, _, rfl, by omega, hnc, by unfold maxLen at hcm; omega, hn, hl, .inr ⟨g, 0, rfl, (Array.getElem?_eq_some_iff.1 hg).1, ?_⟩⟩
    intro i hi
    have q := lnkV_get l i hi
    rw [Lib.cell_of_heap hg, Lib.cell_of_heap hg, Nat.zero_add]
    have e : ∀ j, j < n * 2 → cur.toList[j]? = (lnkV l)[j]? := fun j hj => by rw [← htake, List.getElem?_take_of_lt hj]
    rw [← Array.getElem?_toList, e _ (by omega), ← Array.getElem?_toList, e _ (by omega)]
    exact q
end Go.Proofs.YtgickejfcmnaiaaDoor
