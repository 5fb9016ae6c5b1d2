/-
  What a hundred flags that are spread along edges come to: in lists.
-/
import Derived.Test.YteehpkkkagdckaaGA
namespace Go.Proofs.Yteehpkkkagdckaa
set_option maxRecDepth 100000
set_option linter.unusedVariables false
def cnT (A : List Bool) : Nat := (A.filter id).length
/-- Each flag of the one is one of the other. -/
def subB (A B : List Bool) : Prop := A.length = B.length ∧ ∀ j : Nat, A[j]? = some true → B[j]? = some true
theorem subB.refl (A : List Bool) : subB A A := ⟨rfl, fun _ h => h⟩
theorem cnT_le (A : List Bool) : cnT A ≤ A.length := List.length_filter_le _ _
theorem subB_cn : ∀ (A B : List Bool), subB A B → A = B ∨ cnT A < cnT B
  | [], [], _ => .inl rfl
  | [], b :: B, h => by have := h.1; simp at this
  | a :: A, [], h => by have := h.1; simp at this
  | a :: A, b :: B, h => by
    have h1 : subB A B := ⟨by have := h.1; simpa using this, fun j hj => by have := h.2 (j + 1); simpa using this hj⟩
    have h0 := h.2 0
    simp only [List.getElem?_cons_zero, Option.some.injEq] at h0
    have hle : cnT A ≤ cnT B := by
      rcases subB_cn A B h1 with e | e
      · rw [e]; exact Nat.le_refl _
      · omega
    rcases subB_cn A B h1 with e | e
    · cases a with
      | true => rw [h0 rfl, e]; exact .inl rfl
      | false =>
        cases b with
        | false => rw [e]; exact .inl rfl
        | true => right; rw [e]; simp [cnT]
    · right
      unfold cnT at e ⊢
      cases a with
      | true => rw [h0 rfl]; simp [e]
      | false => cases b <;> simp <;> omega
def okR (l : List Ed) : Prop := ∀ e ∈ l, (0 ≤ e.2.1 ∧ e.2.1 ≤ 99) ∧ (0 ≤ e.2.2.1 ∧ e.2.2.1 ≤ 99)
def closedB (l : List Ed) (A : List Bool) : Prop := ∀ e ∈ l, A[e.2.1.toNat]? = some true → A[e.2.2.1.toNat]? = some true
theorem subB.set {A B : List Bool} (h : subB A B) (j : Nat) : subB A (B.set j true) := by
  refine ⟨by rw [List.length_set]; exact h.1, fun i hi => ?_⟩
  have := h.2 i hi
  rw [List.getElem?_set]
  split
  · rename_i e
    subst e
    rw [if_pos (List.getElem?_eq_some_iff.1 this).1]
  · exact this
theorem set_at (B : List Bool) (j : Nat) (hj : j < B.length) : (B.set j true)[j]? = some true := by rw [List.getElem?_set_self hj]
theorem set_keep (B : List Bool) (i j : Nat) (h : B[i]? = some true) : (B.set j true)[i]? = some true := (subB.set (subB.refl B) j).2 i h
theorem way_closed {l : List Ed} {A : List Bool} {a b : Int} (hc : closedB l A) (h : Way l a b) (ha : A[a.toNat]? = some true) : A[b.toNat]? = some true := by
  induction h using Way.elim with
  | here => exact ha
  | go e he _ ih => exact hc e he ih
/-- What the outer loop says: closed, or more flags than rounds. -/
def spreadI (l : List Ed) (A : List Bool) (n : Nat) : Prop := closedB l A ∨ n + 1 ≤ cnT A
theorem spread_next {l : List Ed} {A B : List Bool} {n : Nat} (h : spreadI l A n) (hs : subB A B) (hp : ∀ e ∈ l, A[e.2.1.toNat]? = some true → B[e.2.2.1.toNat]? = some true) (hc : closedB l A → B = A) : spreadI l B (n + 1) := by
  rcases subB_cn A B hs with e | e
  · left
    subst e
    exact hp
  · rcases h with h | h
    · rw [hc h] at e
      omega
    · right; omega
theorem set_same (B : List Bool) (j : Nat) (h : B[j]? = some true) : B.set j true = B := by
  apply List.ext_getElem?
  intro i
  rw [List.getElem?_set]
  split
  · rename_i e
    subst e
    rw [if_pos (List.getElem?_eq_some_iff.1 h).1, h]
  · rfl
theorem spread_end {l : List Ed} {A : List Bool} (h : spreadI l A 100) (hl : A.length = 100) : closedB l A := by
  rcases h with h | h
  · exact h
  · have := cnT_le A
    omega
/-- What the inner loop says of the flags A, where they were A0. -/
structure InnerI (l : List Ed) (A0 A : List Bool) (i : Nat) : Prop where
  sub : subB A0 A
  done : ∀ j (hj : j < l.length), j < i → A0[l[j].2.1.toNat]? = some true → A[l[j].2.2.1.toNat]? = some true
  same : closedB l A0 → A = A0
theorem InnerI.start (l : List Ed) (A : List Bool) : InnerI l A A 0 := ⟨subB.refl A, fun j _ hj => by omega, fun _ => rfl⟩
theorem InnerI.skip {l : List Ed} {A0 A : List Bool} {i : Nat} (h : InnerI l A0 A i) (hi : i < l.length) (hf : A[l[i].2.1.toNat]? = some false) : InnerI l A0 A (i + 1) :=
  ⟨h.sub, fun j hj hlt ha => by
    rcases Nat.lt_or_ge j i with h' | h'
    · exact h.done j hj h' ha
    · obtain rfl : j = i := by omega
      have := h.sub.2 _ ha
      rw [hf] at this
      exact Bool.noConfusion (Option.some.inj this), h.same⟩
theorem InnerI.put {l : List Ed} {A0 A : List Bool} {i : Nat} (h : InnerI l A0 A i) (hi : i < l.length) (hf : A[l[i].2.1.toNat]? = some true) (hl : l[i].2.2.1.toNat < A.length) : InnerI l A0 (A.set l[i].2.2.1.toNat true) (i + 1) :=
  ⟨h.sub.set _, fun j hj hlt ha => by
    rcases Nat.lt_or_ge j i with h' | h'
    · exact set_keep A _ _ (h.done j hj h' ha)
    · obtain rfl : j = i := by omega
      exact set_at A _ hl, fun hc => by
    have e := h.same hc
    subst e
    exact set_same _ _ (hc _ (List.getElem_mem hi) hf)⟩
theorem InnerI.end {l : List Ed} {A0 A : List Bool} {n : Nat} (h : InnerI l A0 A l.length) (hs : spreadI l A0 n) : spreadI l A (n + 1) :=
  spread_next hs h.sub (fun e he ha => by
    obtain ⟨j, hj, rfl⟩ := List.getElem_of_mem he
    exact h.done j hj hj ha) h.same
end Go.Proofs.Yteehpkkkagdckaa
