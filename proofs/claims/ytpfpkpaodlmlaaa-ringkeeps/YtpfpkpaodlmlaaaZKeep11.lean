/-
  An order has each node once; with steps left out it is forward still: in lists.
-/
import Derived.Test.YtpfpkpaodlmlaaaZFwd11
namespace Go.Proofs.Ytpfpkpaodlmlaaa
set_option maxRecDepth 100000
set_option linter.unusedVariables false
theorem order_sub (nodes o : List Int) (l l' : List Stp) (h : orderL nodes l = some o) (hm : ∀ x ∈ l', x ∈ l) : fwdB o l' = true := by
  obtain ⟨h1, h2, h3⟩ := orderF_some l nodes.length nodes o (Nat.le_refl _) h
  refine fwd_yes o l' (fun i hi => ?_) (fun k hk => ?_)
  · unfold oneEach
    rw [getD_at o 0 i hi]
    exact decide_eq_true (plL_at o h1 i hi)
  · unfold stepOk
    cases ha : plL o l'[k].1 with
    | none => rfl
    | some a =>
      cases hb : plL o l'[k].2.1 with
      | none => rfl
      | some b =>
        obtain ⟨a1, a2, _⟩ := (plL_some _ _ _).1 ha
        obtain ⟨b1, b2, _⟩ := (plL_some _ _ _).1 hb
        have m1 : l'[k].1 ∈ nodes := (h2 _).1 (mem_getD a1 a2)
        have m2 : l'[k].2.1 ∈ nodes := (h2 _).1 (mem_getD b1 b2)
        obtain ⟨p, q, r, hp⟩ := h3 l'[k] (hm _ (List.getElem_mem hk)) m1 m2
        have e1 : plL o l'[k].1 = some p.length := by
          have := plL_at o h1 p.length (by rw [hp]; simp)
          rw [show o[p.length]'(by rw [hp]; simp) = l'[k].1 by simp [hp]] at this
          exact this
        have e2 : plL o l'[k].2.1 = some (p.length + 1 + q.length) := by
          have := plL_at o h1 (p.length + 1 + q.length) (by rw [hp]; simp; omega)
          rw [show o[p.length + 1 + q.length]'(by rw [hp]; simp; omega) = l'[k].2.1 by
            have e : o[p.length + 1 + q.length]? = some l'[k].2.1 := by
              rw [hp, List.getElem?_append_right (by simp; omega)]
              simp
              rw [show p.length + 1 + q.length - (p.length + (q.length + 1)) = 0 by omega]
              rfl
            exact (List.getElem?_eq_some_iff.1 e).2] at this
          exact this
        rw [e1] at ha
        rw [e2] at hb
        cases ha
        cases hb
        exact decide_eq_true (by omega)
def cnT (o : List Int) (x : Int) (m : Nat) : Nat := (o.take m).count x
theorem cnT_le (o : List Int) (x : Int) (m : Nat) : cnT o x m ≤ m := by
  unfold cnT
  have h1 := List.count_le_length (a := x) (l := o.take m)
  rw [List.length_take] at h1
  omega
theorem cnT_yes (o : List Int) (x : Int) (m : Nat) (hm : m < o.length) (h : o[m] = x) : cnT o x (m + 1) = cnT o x m + 1 := by
  unfold cnT
  rw [List.take_succ_eq_append_getElem hm, List.count_append, h]
  simp
theorem cnT_no (o : List Int) (x : Int) (m : Nat) (hm : m < o.length) (h : o[m] ≠ x) : cnT o x (m + 1) = cnT o x m := by
  unfold cnT
  rw [List.take_succ_eq_append_getElem hm, List.count_append, List.count_singleton]
  simp [h]
theorem order_once (nodes o : List Int) (l : List Stp) (h : orderL nodes l = some o) (x : Int) (hx : x ∈ nodes) : cnT o x o.length = 1 := by
  obtain ⟨h1, h2, _⟩ := orderF_some l nodes.length nodes o (Nat.le_refl _) h
  unfold cnT
  rw [List.take_length, h1.count, if_pos ((h2 x).2 hx)]
theorem cut_mem {α : Type} (l : List α) (i : Nat) : ∀ x ∈ l.take i ++ l.drop (i + 1), x ∈ l := fun x hx => by
  rcases List.mem_append.1 hx with h | h
  · exact List.mem_of_mem_take h
  · exact List.mem_of_mem_drop h
end Go.Proofs.Ytpfpkpaodlmlaaa
