/-
  Rings turned and cut: in lists.
-/
import Derived.Test.YtpfpkpaodlmlaaaZFwd11
namespace Go.Proofs.Ytpfpkpaodlmlaaa
set_option maxRecDepth 100000
set_option linter.unusedVariables false
theorem chain_of_idx : ∀ (r : List Stp) (s : Stp) (b : Int), (∀ i, i + 1 < (s :: r).length → ((s :: r).getD i (0, 0, [])).2.1 = ((s :: r).getD (i + 1) (0, 0, [])).1) → ((s :: r).getD ((s :: r).length - 1) (0, 0, [])).2.1 = b → chainB (s :: r) s.1 b
  | [], s, b, _, h => ⟨rfl, h⟩
  | x :: r, s, b, h1, h2 => by
    refine ⟨rfl, ?_⟩
    have e : s.2.1 = x.1 := h1 0 (by simp)
    rw [e]
    refine chain_of_idx r x b (fun i hi => ?_) ?_
    · exact h1 (i + 1) (by simpa using hi)
    · have : (s :: x :: r).length - 1 = ((x :: r).length - 1) + 1 := by simp
      rw [this] at h2
      exact h2
theorem cl_closed (r : List Stp) (h : clB r = true) : closedP r := by
  unfold clB at h
  rw [Bool.and_eq_true, decide_eq_true_eq, List.all_eq_true] at h
  obtain ⟨h0, h1⟩ := h
  cases r with
  | nil => simp at h0
  | cons s r =>
    refine ⟨s, r, rfl, chain_of_idx r s s.1 (fun i hi => ?_) ?_⟩
    · have := h1 i (List.mem_range.2 (by omega))
      unfold meetB nxtI at this
      rw [if_neg (by omega), decide_eq_true_eq] at this
      exact this
    · have := h1 ((s :: r).length - 1) (List.mem_range.2 (by omega))
      unfold meetB nxtI at this
      rw [if_pos (by omega), decide_eq_true_eq] at this
      exact this
theorem cl_iff (r : List Stp) : clB r = true ↔ closedP r := ⟨cl_closed r, closed_cl r⟩
theorem closed_iff (r : List Stp) : closedP r ↔ r ≠ [] ∧ ∃ a, chainB r a a := by
  constructor
  · rintro ⟨s, r', e, h⟩
    exact ⟨by rw [e]; simp, _, h⟩
  · rintro ⟨h0, a, h⟩
    cases r with
    | nil => exact absurd rfl h0
    | cons s r =>
      have e : s.1 = a := h.1
      exact ⟨s, r, rfl, by rw [e]; exact h⟩
theorem chain_app : ∀ (p q : List Stp) (a b : Int), chainB (p ++ q) a b ↔ ∃ c, chainB p a c ∧ chainB q c b
  | [], q, a, b => ⟨fun h => ⟨a, rfl, h⟩, fun ⟨c, h1, h2⟩ => by have h1 : a = c := h1; subst h1; exact h2⟩
  | s :: p, q, a, b => by
    constructor
    · rintro ⟨h1, h2⟩
      obtain ⟨c, h3, h4⟩ := (chain_app p q s.2.1 b).1 h2
      exact ⟨c, ⟨h1, h3⟩, h4⟩
    · rintro ⟨c, ⟨h1, h3⟩, h4⟩
      exact ⟨h1, (chain_app p q s.2.1 b).2 ⟨c, h3, h4⟩⟩
theorem closed_turn {p q : List Stp} (h : closedP (p ++ q)) : closedP (q ++ p) := by
  obtain ⟨h0, a, h1⟩ := (closed_iff _).1 h
  obtain ⟨c, h2, h3⟩ := (chain_app p q a a).1 h1
  refine (closed_iff _).2 ⟨fun e => h0 ?_, c, (chain_app q p c c).2 ⟨a, h3, h2⟩⟩
  rw [List.append_eq_nil_iff] at e ⊢
  exact ⟨e.2, e.1⟩
theorem cl_turn (l : List Stp) (n : Nat) : clB (l.drop n ++ l.take n) = clB l := by
  rw [Bool.eq_iff_iff, cl_iff, cl_iff]
  constructor
  · intro h
    have := closed_turn h
    rwa [List.take_append_drop] at this
  · intro h
    apply closed_turn
    rwa [List.take_append_drop]
theorem chain_one : ∀ (r : List Stp) (a b c : Int), chainB r a b → chainB r a c → b = c
  | [], a, b, c, h1, h2 => (show a = b from h1).symm.trans h2
  | s :: r, a, b, c, h1, h2 => chain_one r s.2.1 b c h1.2 h2.2
theorem cl_less (s : Stp) (r : List Stp) (h : clB (s :: r) = true) (hs : s.1 ≠ s.2.1) : clB r = false := by
  rw [Bool.eq_false_iff]
  intro h'
  obtain ⟨_, a, h1, h2⟩ := (closed_iff _).1 ((cl_iff _).1 h)
  obtain ⟨h0, b, h3⟩ := (closed_iff _).1 ((cl_iff _).1 h')
  cases r with
  | nil => exact h0 rfl
  | cons x r =>
    have e1 : x.1 = s.2.1 := h2.1
    have e2 : x.1 = b := h3.1
    have e3 : b = s.2.1 := e2.symm.trans e1
    subst e3
    have := chain_one _ _ _ _ h2 h3
    exact hs ((show s.1 = a from h1).trans this)
theorem cl_short (l r : List Stp) (hr : clB r = true) (hm : ∀ s ∈ r, s ∈ l) : ∃ q, ringL l = some q ∧ q.length ≤ r.length := by
  obtain ⟨a, h1, h2⟩ := closed_walk ((cl_iff r).1 hr) hm
  exact ring_of_walk l r.length a h1 h2
end Go.Proofs.Ytpfpkpaodlmlaaa
