/-
  As Float's takeC, where operation d waits for i by way of a chain of others: of no program.
-/
import Derived.Test.YtngllioidfffdaaGC
namespace Go.Proofs.Ytngllioidfffdaa
set_option maxRecDepth 100000
open Go.RowKit
set_option linter.unusedVariables false
section
variable {P : Program} {ops : Array Oper} {md : Region.Mode} {Q : Exit → Act → World → Prop}
/-- Each of a row waits for the one ahead, the first for i. -/
def chainW (md : Region.Mode) (ops : Array Oper) : Nat → List Nat → Bool
  | _, [] => true
  | i, m :: ms => Region.waitsFor md ops m i && chainW md ops m ms
def unlB (listed : Array Bool) (ms : List Nat) : Bool := ms.all fun m => listed.getD m false == false
theorem unlB_iff (listed : Array Bool) (ms : List Nat) : unlB listed ms = true ↔ ∀ m ∈ ms, listed.getD m false = false := by
  unfold unlB
  rw [List.all_eq_true]
  exact ⟨fun h m hm => by simpa using h m hm, fun h m hm => by simpa using h m hm⟩
theorem chain_not (listed : Array Bool) (j : Nat) (hj : j ∈ Region.ready md ops listed) : ∀ (ms : List Nat) (i : Nat), listed.getD i false = false → (∀ m ∈ ms, listed.getD m false = false) → chainW md ops i ms = true → j ∉ ms
  | [], _, _, _, _ => by simp
  | m :: ms, i, hi, hu, hc => by
    rw [chainW, Bool.and_eq_true] at hc
    intro hm
    rcases List.mem_cons.1 hm with e | e
    · subst e
      obtain ⟨o', ho', e, he, hb, hon⟩ := Region.waitsFor_spec hc.1
      obtain ⟨_, oj, hoj, hall⟩ := mem_ready.1 hj
      obtain rfl : o' = oj := Option.some.inj (ho'.symm.trans hoj)
      have h4 := hall e he hb
      rw [hon, hi] at h4
      cases h4
    · exact chain_not listed j hj ms m (hu m (List.mem_cons_self ..)) (fun x hx => hu x (List.mem_cons_of_mem _ hx)) hc.2 e
theorem firstCC {C : World → Prop} {d i : Nat} {ms : List Nat} {oi : Oper} {v : Value} (hi : ops[i]? = some oi) (hsel : ∀ (j : Nat) (o : Oper) cs b, ops[j]? = some o → o.op ≠ .select cs b)
    (hc : chainW md ops i ms = true) (hdm : d ∈ ms) (hQ : ∀ c a w, Q (.panic c) (a.put oi.dst v) w → Q (.panic c) a w) :
    ∀ (f : Nat) (listed : Array Bool) (a : Act) (w : World), (∀ m ∈ ms, listed.getD m false = false) →
      (∀ j oj, ops[j]? = some oj → j ≠ i → listed.getD j true = false → (∀ e ∈ oj.after, Region.binds md e = true → e.on ≠ i) → oi.apart ops oj = true) →
      i ∈ Region.ready md ops listed → YieldsC C P ops oi v a →
      wpAnyC C d P md ops Q f (listed.setIfInBounds i true) (a.put oi.dst v) w → wpAnyC C d P md ops Q (f + 1) listed a w := by
  have hnm : ∀ (listed : Array Bool) j, i ∈ Region.ready md ops listed → (∀ m ∈ ms, listed.getD m false = false) → j ∈ Region.ready md ops listed → j ∉ ms := fun listed j hr hu hj =>
    chain_not listed j hj ms i (getD_both (mem_ready.1 hr).1) hu hc
  intro f
  induction f with
  | zero =>
    intro listed a w hml _ hr hy H
    have hdl := hml d hdm
    have hid : i ≠ d := fun e => hnm listed i hr hml hr (by rw [e]; exact hdm)
    refine .inr ⟨hdl, H.2 (by rw [getD_set_ne false hid]; exact hdl), fun h => (by rw [h] at hr; cases hr), fun j hj => ?_⟩
    by_cases hji : j = i
    · subst hji; exact hy.op hi (H.2 (by rw [getD_set_ne false hid]; exact hdl)) H
    · have := ready_mono hj hji
      rw [H.1.1] at this
      cases this
  | succ f ih =>
    intro listed a w hml hfree hr hy H
    have hdl := hml d hdm
    have hid : i ≠ d := fun e => hnm listed i hr hml hr (by rw [e]; exact hdm)
    rcases H with H | H
    · rw [getD_set_ne false hid, hdl] at H; cases H.1
    · obtain ⟨hd1, hC, hn, H⟩ := H
      refine .inr ⟨hdl, hC, fun h => (by rw [h] at hr; cases hr), fun j hj => ?_⟩
      by_cases hji : j = i
      · subst hji; exact hy.op hi hC (.inr ⟨hd1, hC, hn, H⟩)
      · have h1 := H j (ready_mono hj hji)
        obtain ⟨hjun, oj, hoj, hall⟩ := mem_ready.1 hj
        have hnot : ∀ e ∈ oj.after, Region.binds md e = true → e.on ≠ i := fun e he hb heq => by
          have h1 := hall e he hb
          rw [heq, getD_both (mem_ready.1 hr).1] at h1
          cases h1
        have h2 := wpOp_putC hoj (hfree j oj hoj hji hjun hnot) (fun cs b => hsel i oi cs b hi) (fun cs b => hsel j oj cs b hoj) hQ hy h1
        have hjm := hnm listed j hr hml hj
        refine wpOp_mono (fun a' w' h3 => ih (listed.setIfInBounds j true) a' w' (fun m hm => by rw [getD_set_ne false (fun e => hjm (by rw [e]; exact hm))]; exact hml m hm) (fun k ok hk hki hku hno => ?_) (ready_mono hr (Ne.symm hji)) h3.1 ?_) h2
        · refine hfree k ok hk hki ?_ hno
          by_cases hjk : j = k
          · subst hjk; exact hjun
          · rw [getD_set_ne true hjk] at hku; exact hku
        · rw [Array.setIfInBounds_comm _ _ hji]
          exact h3.2
/-- Operation i first: it yields v as long as C holds, which it does until operation d, the last of a row of which each waits for the one ahead, the first for i. -/
theorem takeCC {C : World → Prop} {d i : Nat} (ms : List Nat) {oi : Oper} {v : Value} {f : Nat} {listed : Array Bool} {a : Act} {w : World} (hi : ops[i]? = some oi)
    (hs : Region.noSelect ops = true) (hf : Region.free md ops listed i = true) (hr : (Region.ready md ops listed).contains i = true) (hc : chainW md ops i ms = true) (hd : ms.contains d = true) (hml : unlB listed ms = true)
    (hQ : ∀ c a w, Q (.panic c) (a.put oi.dst v) w → Q (.panic c) a w) (hy : YieldsC C P ops oi v a)
    (h : wpAnyC C d P md ops Q f (listed.setIfInBounds i true) (a.put oi.dst v) w) : wpAnyC C d P md ops Q (f + 1) listed a w :=
  firstCC hi (Region.noSelect_spec hs) hc (by simpa using hd) hQ f listed a w ((unlB_iff _ _).1 hml) (Region.free_spec hi hf) (by simpa using hr) hy h
end
end Go.Proofs.Ytngllioidfffdaa
