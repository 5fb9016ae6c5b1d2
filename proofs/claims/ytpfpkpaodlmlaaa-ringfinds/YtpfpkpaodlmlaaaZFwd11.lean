/-
  Orders go forward, rings are closed: in lists.
-/
import Derived.Test.YtpfpkpaodlmlaaaGF
namespace Go.Proofs.Ytpfpkpaodlmlaaa
set_option maxRecDepth 100000
set_option linter.unusedVariables false
theorem plL_at (o : List Int) (hn : o.Nodup) (k : Nat) (hk : k < o.length) : plL o o[k] = some k := by
  rw [plL_some]
  refine ⟨hk, getD_at o 0 k hk, fun j hj => ?_⟩
  rw [getD_at o 0 j (by omega)]
  exact (List.pairwise_iff_getElem.1 hn) j k (by omega) hk hj
theorem order_fwd (nodes o : List Int) (l : List Stp) (h : orderL nodes l = some o) : fwdB o l = true := by
  obtain ⟨h1, h2, h3⟩ := orderF_some l nodes.length nodes o (Nat.le_refl _) h
  refine fwd_yes o l (fun i hi => ?_) (fun k hk => ?_)
  · unfold oneEach
    rw [getD_at o 0 i hi]
    exact decide_eq_true (plL_at o h1 i hi)
  · unfold stepOk
    cases ha : plL o l[k].1 with
    | none => rfl
    | some a =>
      cases hb : plL o l[k].2.1 with
      | none => rfl
      | some b =>
        obtain ⟨a1, a2, _⟩ := (plL_some _ _ _).1 ha
        obtain ⟨b1, b2, _⟩ := (plL_some _ _ _).1 hb
        have m1 : l[k].1 ∈ nodes := (h2 _).1 (mem_getD a1 a2)
        have m2 : l[k].2.1 ∈ nodes := (h2 _).1 (mem_getD b1 b2)
        obtain ⟨p, q, r, hp⟩ := h3 l[k] (List.getElem_mem hk) m1 m2
        have e1 : plL o l[k].1 = some p.length := by
          have := plL_at o h1 p.length (by rw [hp]; simp)
          rw [show o[p.length]'(by rw [hp]; simp) = l[k].1 by simp [hp]] at this
          exact this
        have e2 : plL o l[k].2.1 = some (p.length + 1 + q.length) := by
          have := plL_at o h1 (p.length + 1 + q.length) (by rw [hp]; simp; omega)
          rw [show o[p.length + 1 + q.length]'(by rw [hp]; simp; omega) = l[k].2.1 by
            have e : o[p.length + 1 + q.length]? = some l[k].2.1 := by
              rw [hp, List.getElem?_append_right (by simp; omega)]
              simp
              rw [show p.length + 1 + q.length - (p.length + (q.length + 1)) = 0 by omega]
              rfl
            exact (List.getElem?_eq_some_iff.1 e).2] at this
          exact this
        rw [e1] at ha
        rw [e2] at hb
        cases ha
        cases hb
        exact decide_eq_true (by omega)
theorem chain_idx : ∀ (r : List Stp) (a b : Int), chainB r a b → (r = [] → a = b) ∧ ∀ s r', r = s :: r' → s.1 = a ∧ (∀ i, i + 1 < r.length → (r.getD i (0, 0, [])).2.1 = (r.getD (i + 1) (0, 0, [])).1) ∧ (r.getD (r.length - 1) (0, 0, [])).2.1 = b
  | [], a, b, h => ⟨fun _ => h, fun s r' e => by cases e⟩
  | x :: r, a, b, h => by
    refine ⟨fun e => (by cases e), fun s r' e => ?_⟩
    cases e
    obtain ⟨h1, h2⟩ := h
    have ih := chain_idx r x.2.1 b h2
    cases r with
    | nil => exact ⟨h1, fun i hi => by simp at hi, ih.1 rfl⟩
    | cons y r =>
      obtain ⟨i1, i2, i3⟩ := ih.2 y r rfl
      refine ⟨h1, fun i hi => ?_, ?_⟩
      · cases i with
        | zero => exact i1.symm
        | succ i => exact i2 i (by simpa using hi)
      · have : (x :: y :: r).length - 1 = ((y :: r).length - 1) + 1 := by simp
        rw [this]
        exact i3
theorem closed_cl (r : List Stp) (h : closedP r) : clB r = true := by
  obtain ⟨s, r', e, hc⟩ := h
  obtain ⟨h1, h2, h3⟩ := (chain_idx r s.1 s.1 hc).2 s r' e
  rw [cl_yes r (fun i hi => ?_)]
  · exact decide_eq_true (by rw [e]; simp)
  · unfold meetB nxtI
    by_cases hn : i + 1 = r.length
    · rw [if_pos hn]
      apply decide_eq_true
      rw [show i = r.length - 1 by omega, h3, e]
      rfl
    · rw [if_neg hn]
      exact decide_eq_true (h2 i (by omega))
theorem ringL_few (l r : List Stp) (h : ringL l = some r) : r.length ≤ l.length ∨ l = [] := by
  by_cases h0 : l = []
  · exact .inr h0
  · left
    unfold ringL at h
    cases hn : ringN l with
    | none => rw [hn] at h; cases h
    | some n =>
      rw [hn] at h
      simp only at h
      cases hs : ringAt l (n + 1) with
      | none => rw [hs] at h; cases h
      | some s =>
        rw [hs] at h
        simp only [Option.some.injEq] at h
        have hlt := ((fi_some _ _ _).1 hn).1
        have hp := (path_ok l s (n + 1) s (ring_at l (n + 1) s hs).2.1).2.1
        rw [← h, hp]
        have hst : (startsL l).length ≤ l.length := by
          have g : ∀ (m : List Stp) (acc : List Int), (startsF acc m).length ≤ acc.length + m.length := by
            intro m
            induction m with
            | nil => intro acc; rw [startsF]; simp
            | cons x m ih =>
              intro acc
              rw [startsF, List.length_cons]
              have := ih (insI x.1 acc)
              have h2 : ∀ K : List Int, (insI x.1 K).length ≤ K.length + 1 := by
                intro K
                induction K with
                | nil => simp [insI]
                | cons y K ihK =>
                  rw [insI]
                  split
                  · simp; omega
                  · split <;> simp
              have := h2 acc
              omega
          have := g l []
          simpa [startsL] using this
        omega
theorem orderF_few (l : List Stp) : ∀ (n : Nat) (left o : List Int), orderF l n left = some o → o.length ≤ n
  | 0, left, o, h => by
    rw [orderF] at h
    split at h
    · cases h; simp
    · cases h
  | n + 1, left, o, h => by
    rw [orderF] at h
    split at h
    · cases h; simp
    · cases hb : bestL l left with
      | none => rw [hb] at h; cases h
      | some b =>
        rw [hb] at h
        simp only at h
        cases hr : orderF l n (left.filter fun x => decide (x ≠ b)) with
        | none => rw [hr] at h; cases h
        | some o' =>
          rw [hr] at h
          simp only [Option.some.injEq] at h
          have := orderF_few l n _ o' hr
          rw [← h]
          simp
          omega
theorem nodes_len (l : List Stp) : (nodesL l).length = 2 * l.length := by
  unfold nodesL
  induction l with
  | nil => rfl
  | cons x l ih => rw [List.flatMap_cons, List.length_append, ih]; simp; omega
end Go.Proofs.Ytpfpkpaodlmlaaa
