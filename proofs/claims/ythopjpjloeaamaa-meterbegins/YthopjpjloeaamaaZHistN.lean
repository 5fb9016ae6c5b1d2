/-
  Histories grown and cut, in lists: of no program.
-/
import Derived.Test.YthopjpjloeaamaaZHistM
namespace Go.Proofs.Ythopjpjloeaamaa
set_option maxRecDepth 100000
set_option linter.unusedVariables false
theorem fstL_congr {h k : List Ev} {n : Nat} (he : ∀ j, j < n → ev h j = ev k j) (t : Int) : fstL h t n = fstL k t n := fi_congr fun i hi => by unfold ofTxn; rw [he i hi]
theorem endL_congr {h k : List Ev} {n : Nat} (he : ∀ j, j < n → ev h j = ev k j) (t : Int) : endL h t n = endL k t n := fi_congr fun i hi => by unfold isEnd; rw [he i hi]
/-- What is wrong with an event that is no read hangs on those ahead alone. -/
theorem formStep_congr {h k : List Ev} {i : Nat} (he : ∀ j, j ≤ i → ev h j = ev k j) (h2 : (ev h i).1 ≠ 2) : formStep h i = formStep k i := by
  have hi := he i (Nat.le_refl _)
  unfold formStep
  rw [← hi, fstL_congr (fun j hj => he j (by omega)), endL_congr (fun j hj => he j (by omega)), show fi (sameVal h (ev h i).2.2.2) i = fi (sameVal k (ev h i).2.2.2) i from fi_congr fun j hj => by unfold sameVal; rw [he j (by omega)]]
  rw [if_neg (c := (ev h i).1 = 2 ∧ (ev h i).2.2.2 ≠ [] ∧ writerL h (ev h i).2.2.1 (ev h i).2.2.2 = none) (fun hh => h2 hh.1), if_neg (c := (ev h i).1 = 2 ∧ (ev h i).2.2.2 ≠ [] ∧ writerL k (ev h i).2.2.1 (ev h i).2.2.2 = none) (fun hh => h2 hh.1)]
/-- With a transaction behind that only begins and ends. -/
theorem wf_grow {h : List Ev} (hw : WF h) (t k : Int) (ht : 1 ≤ t ∧ t ≤ 32) (hk : k = 4 ∨ k = 5) (hn : findL h t = none) (hl : h.length ≤ 254) : WF (h ++ [(1, t, [], []), (k, t, [], [])]) ∧ findL (h ++ [(1, t, [], []), (k, t, [], [])]) t = some (t, h.length, h.length + 1, decide (k = 4)) := by
  have hnone : ∀ j, j < h.length → (ev h j).2.1 ≠ t := by
    unfold findL at hn
    cases hf : fstL h t h.length with
    | none => exact (fstL_none _ _ _).1 hf
    | some f =>
      rw [hf] at hn
      simp only at hn
      cases he : endL h t h.length with
      | none => rw [he] at hn; cases hn
      | some e => rw [he] at hn; cases hn
  have hL : ∀ j, j < h.length → ev (h ++ [(1, t, [], []), (k, t, [], [])]) j = ev h j := fun j hj => ev_left _ _ _ hj
  have h0 : ev (h ++ [(1, t, [], []), (k, t, [], [])]) h.length = (1, t, [], []) := by have := ev_right h [(1, t, [], []), (k, t, [], [])] 0 (by simp); exact this
  have h1 : ev (h ++ [(1, t, [], []), (k, t, [], [])]) (h.length + 1) = (k, t, [], []) := by have := ev_right h [(1, t, [], []), (k, t, [], [])] 1 (by simp); exact this
  generalize hg : h ++ [(1, t, [], []), (k, t, [], [])] = g at *
  have hlen : g.length = h.length + 2 := by rw [← hg]; simp
  have hf1 : fstL g t g.length = some h.length := by
    rw [fstL_some]
    exact ⟨by omega, by rw [h0], fun j hj => by rw [hL j hj]; exact hnone j hj⟩
  have he1 : endL g t g.length = some (h.length + 1) := by
    rw [endL_some]
    refine ⟨by omega, by rw [h1]; exact ⟨rfl, hk⟩, fun j hj hb => ?_⟩
    rcases Nat.lt_or_ge j h.length with hjn | hjn
    · rw [hL j hjn] at hb; exact hnone j hjn hb.1
    · rw [show j = h.length by omega, h0] at hb
      rcases hb.2 with hb | hb <;> cases hb
  refine ⟨⟨by omega, fun i hi => ?_, fun i hi => ?_⟩, ?_⟩
  · rcases Nat.lt_or_ge i h.length with hin | hin
    · have hz := (formStep_zero h i).1 (hw.2.1 i hin)
      rw [formStep_zero, hL i hin]
      have hc : ∀ j, j < i → ev g j = ev h j := fun j hj => hL j (by omega)
      refine ⟨hz.1, fun e1 => ?_, fun e1 => ?_⟩
      · rw [fstL_congr hc]; exact hz.2.1 e1
      · obtain ⟨z1, z2, z3, z4⟩ := hz.2.2 e1
        refine ⟨by rw [fstL_congr hc]; exact z1, by rw [endL_congr hc]; exact z2, fun e3 => ?_, fun e2 ev' => ?_⟩
        · rw [show fi (sameVal g (ev h i).2.2.2) i = fi (sameVal h (ev h i).2.2.2) i from fi_congr fun j hj => by unfold sameVal; rw [hc j hj]]
          exact z3 e3
        · intro hwn
          cases hwr : writerL h (ev h i).2.2.1 (ev h i).2.2.2 with
          | none => exact z4 e2 ev' hwr
          | some j =>
            obtain ⟨w1, w2, _⟩ := (writerL_some _ _ _ _).1 hwr
            exact (writerL_none _ _ _).1 hwn j (by omega) (by rw [hL j w1]; exact w2)
    · rcases Nat.lt_or_ge i (h.length + 1) with hi2 | hi2
      · obtain rfl : i = h.length := by omega
        rw [formStep_zero, h0]
        refine ⟨⟨⟨by show (1 : Int) ≤ 1; decide, by show (1 : Int) ≤ 5; decide, ht.1, ht.2⟩, ?_⟩, fun _ => ?_, fun e => absurd rfl e⟩
        · rw [if_neg (show ¬ keyedE 1 by unfold keyedE; decide)]; exact ⟨rfl, rfl⟩
        · rw [fstL_none]; intro j hj; rw [hL j hj]; exact hnone j hj
      · obtain rfl : i = h.length + 1 := by omega
        rw [formStep_zero, h1]
        have hk' : ¬ keyedE k := by unfold keyedE; omega
        refine ⟨⟨⟨by show 1 ≤ k; omega, by show k ≤ 5; omega, ht.1, ht.2⟩, ?_⟩, fun e => ?_, fun e => ⟨?_, ?_, fun e3 => ?_, fun e2 => ?_⟩⟩
        · rw [if_neg hk']; exact ⟨rfl, rfl⟩
        · exfalso; have : k = 1 := e; omega
        · rw [show fstL g t (h.length + 1) = some h.length by rw [fstL_some]; exact ⟨by omega, by rw [h0], fun j hj => by rw [hL j hj]; exact hnone j hj⟩]
          simp
        · rw [endL_none]
          intro j hj hb
          rcases Nat.lt_or_ge j h.length with hjn | hjn
          · rw [hL j hjn] at hb; exact hnone j hjn hb.1
          · rw [show j = h.length by omega, h0] at hb
            rcases hb.2 with hb | hb <;> cases hb
        · exfalso; have : k = 3 := e3; omega
        · exfalso; have : k = 2 := e2; omega
  · rcases Nat.lt_or_ge i h.length with hin | hin
    · rw [hL i hin]
      intro hnn
      cases he : endL h (ev h i).2.1 h.length with
      | none => exact hw.2.2 i hin he
      | some e =>
        obtain ⟨e1, e2, _⟩ := (endL_some _ _ _ _).1 he
        exact (endL_none _ _ _).1 hnn e (by omega) (by rw [hL e e1]; exact e2)
    · have ht' : (ev g i).2.1 = t := by
        rcases Nat.lt_or_ge i (h.length + 1) with hi2 | hi2
        · rw [show i = h.length by omega, h0]
        · rw [show i = h.length + 1 by omega, h1]
      rw [ht', he1]; simp
  · unfold findL
    rw [hf1, he1]
    simp only [h1]
/-- Of a history without reads: what is wrong with a beginning. -/
theorem formed_cut (k : List Ev) (n : Nat) (hr : ∀ i, i < k.length → (ev k i).1 ≠ 2) (hl : k.length ≤ 256) (hn : n ≤ k.length) :
    ((formedL k).1 < n ∧ (formedL k).2 ≠ 0 → formedL (k.take n) = formedL k) ∧ (¬ ((formedL k).1 < n ∧ (formedL k).2 ≠ 0) → (formedL (k.take n)).1 = n ∧ ((formedL (k.take n)).2 = 0 ∨ (formedL (k.take n)).2 = 9)) := by
  have hT : (k.take n).length = n := by rw [List.length_take]; omega
  have hE : ∀ j, j < n → ev (k.take n) j = ev k j := fun j hj => ev_take k n j hj hn
  have hS : ∀ i, i < n → formStep (k.take n) i = formStep k i := fun i hi => formStep_congr (fun j hj => hE j (by omega)) (by rw [hE i hi]; exact hr i (by omega))
  have hW : fi (wrongAt (k.take n)) n = fi (wrongAt k) n := fi_congr fun i hi => by unfold wrongAt; rw [hS i hi]
  have e1 : formedL (k.take n) = match fi (wrongAt k) n with | some i => (i, formStep (k.take n) i) | none => if fi (openAt (k.take n)) n = none then (n, 0) else (n, 9) := by
    unfold formedL
    rw [hT, if_neg (by omega), hW]
    (try rfl)
  have e2 : formedL k = match fi (wrongAt k) k.length with | some i => (i, formStep k i) | none => if fi (openAt k) k.length = none then (k.length, 0) else (k.length, 9) := by
    unfold formedL
    rw [if_neg (by omega)]
    (try rfl)
  cases hc : fi (wrongAt k) n with
  | some i =>
    have hi := (fi_some _ _ _).1 hc
    have hc2 : fi (wrongAt k) k.length = some i := (fi_some _ _ _).2 ⟨by omega, hi.2⟩
    rw [hc] at e1
    rw [hc2] at e2
    simp only at e1 e2
    rw [hS i hi.1] at e1
    rw [e1, e2]
    refine ⟨fun _ => rfl, fun hh => absurd ⟨hi.1, of_decide_eq_true hi.2.1⟩ hh⟩
  | none =>
    have hno := (fi_none _ _).1 hc
    rw [hc] at e1
    simp only at e1
    refine ⟨fun hh => ?_, fun _ => ?_⟩
    · exfalso
      cases hc2 : fi (wrongAt k) k.length with
      | some i =>
        rw [hc2] at e2
        simp only at e2
        rw [e2] at hh
        have hi := (fi_some _ _ _).1 hc2
        have := hno i hh.1
        rw [hi.2.1] at this
        cases this
      | none =>
        rw [hc2] at e2
        simp only at e2
        by_cases ho : fi (openAt k) k.length = none
        · rw [if_pos ho] at e2; rw [e2] at hh; exact hh.2 rfl
        · rw [if_neg ho] at e2; rw [e2] at hh; have : k.length < n := hh.1; omega
    · rw [e1]
      by_cases ho : fi (openAt (k.take n)) n = none
      · rw [if_pos ho]; exact ⟨rfl, .inl rfl⟩
      · rw [if_neg ho]; exact ⟨rfl, .inr rfl⟩
end Go.Proofs.Ythopjpjloeaamaa
