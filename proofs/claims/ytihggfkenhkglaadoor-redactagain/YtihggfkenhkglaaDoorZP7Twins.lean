/-
  What redact.twins and redact.Twins answer.
-/
import Derived.Test.YtihggfkenhkglaaDoorZP7PairV
import Derived.Test.YtihggfkenhkglaaDoorZP7Each
namespace Go.Proofs.YtihggfkenhkglaaDoor
set_option maxRecDepth 100000
open Go.RowKit
set_option linter.unusedVariables false
attribute [local go_sem] ba_size
def twinsQ (h T : List Ev) : List UInt8 × List UInt8 × Bool :=
  if (pairR 5 (keyAt h) (keyAt T) T.length).2.2 = true then pairR 5 (keyAt h) (keyAt T) T.length else pairR 6 (valAt h) (valAt T) T.length
theorem ptwins7_any (h T : List Ev) (v u : Value) (w : World) (hT : IsEvs w v h) (hU : IsEvs w u T) (hl : T.length = h.length) (hn : h.length ≤ 256) (hB : ∀ x ∈ h, x.2.2.1.length ≤ 1125899906842624 ∧ x.2.2.2.length ≤ 1125899906842624) (hB' : ∀ x ∈ T, x.2.2.1.length ≤ 1125899906842624 ∧ x.2.2.2.length ≤ 1125899906842624) :
    Calls Tryd.prog 35 #[v, u] w fun e w' => e = .returned (twV (twinsQ h T)) ∧ Below w.heap.size w w' := by
  have A := ppairK_any h T v u w hT hU hl hn hB hB'
  have B := fun W (b : Below w.heap.size w W) => ppairV_any h T v u W (hT.below b) (hU.below b) hl hn hB hB'
  unfold twinsQ
  obtain ⟨⟨x, y, z⟩, hx⟩ : ∃ x, pairR 5 (keyAt h) (keyAt T) T.length = x := ⟨_, rfl⟩
  obtain ⟨⟨p, q, r⟩, hp⟩ : ∃ x, pairR 6 (valAt h) (valAt T) T.length = x := ⟨_, rfl⟩
  rw [hx] at A ⊢
  rw [hp] at B ⊢
  obtain ⟨a, cap, rfl, h1, h2, h3, HC⟩ := hT.some_at
  obtain ⟨b, cap2, rfl, k1, k2, k3, HD⟩ := hU.some_at
  unfold twV at A B
  simp only at A B
  clear hx hp HC HD hT hU hl hB hB'
  cases z with
  | true =>
    rw [if_pos rfl]
    go_enter Tryd.func35, Tryd.ntmps35
    go_wp2_with fail
    refine A.mono ?_
    rintro e w1 ⟨rfl, hb1⟩
    go_wp2_with fail
    go_ret3
    exact ⟨rfl, hb1⟩
  | false =>
    rw [if_neg (by simp)]
    go_enter Tryd.func35, Tryd.ntmps35
    go_wp2_with fail
    refine A.mono ?_
    rintro e w1 ⟨rfl, hb1⟩
    go_wp2_with fail
    refine (B _ hb1).mono ?_
    rintro e w2 ⟨rfl, hb2⟩
    go_wp2_with fail
    go_ret3
    exact ⟨rfl, bel_trans hb1 hb2⟩
theorem twinsQ_eq (s : List UInt8) (h : List Ev) (hg : goodH s h) : twinsQ h (tagsL (keyL s) h) = twinsP s h := by
  have hne : ∀ t, keyL s t ≠ [] := fun t e => by have := keyL_32 s t; rw [e] at this; cases this
  unfold twinsQ
  rw [tags_keys (keyL s) h hg.1, tags_vals (keyL s) h hg.1, tags_len, pair_twins (keyL s) hne (keyIn h) (keyAt h) 5 (keys_in h hg.1), pair_twins (keyL s) hne (valIn h) (valAt h) 6 (vals_in h hg.1)]
  unfold twinsP
  rw [if_pos hg]
  cases twinsG (keyL s) (keyIn h) h.length with
  | none => rfl
  | some p => rfl
theorem pTwins_any (s : List UInt8) (h : List Ev) (v : Value) (w : World) (hG : G w) (hT : IsEvs w v h) (hn : h.length ≤ 256) (hB : ∀ x ∈ h, goodE x) :
    Calls Tryd.prog 23 #[.string ⟨s.toArray⟩, v] w fun e w' => e = .returned (twV (twinsP s h)) ∧ Below w.heap.size w w' := by
  have E := peach_any s h v w hG hT hn
  by_cases hg : goodH s h
  · rw [allP_ok s h (by omega) hg.1 hg.2] at E
    have C := fun W u (b : Below w.heap.size w W) (hU : IsEvs W u (tagsL (keyL s) h)) => ptwins7_any h (tagsL (keyL s) h) v u W (hT.below b) hU (tags_len _ _) hn (good_len h hB) (good_len _ (tags_good s h hg.1))
    rw [twinsQ_eq s h hg] at C
    have HT : Hid ((tagsL (keyL s) h).length ≤ 256) := by show _ ≤ _; rw [tags_len]; exact hn
    obtain ⟨T, hTT⟩ : ∃ T, tagsL (keyL s) h = T := ⟨_, rfl⟩
    obtain ⟨⟨x, y, z⟩, hx⟩ : ∃ x, twinsP s h = x := ⟨_, rfl⟩
    rw [hTT] at E C HT
    rw [hx] at C ⊢
    obtain ⟨a, cap, rfl, h1, h2, h3, HC⟩ := hT.some_at
    unfold twV at C ⊢
    simp only at C ⊢
    clear hx hTT HC hT hB hg
    go_enter Tryd.func23, Tryd.ntmps23
    go_wp2_with fail
    refine E.mono ?_
    rintro e w1 ⟨r, rfl, hb1, hown⟩
    have hU : IsEvs w1 r T := IsRec.own evV_len (by omega) hown (by have := HT.out; show T.length ≤ _; omega)
    have C1 := C w1 r hb1 hU
    obtain ⟨b, cap2, rfl, k1, k2, k3, HD⟩ := hU.some_at
    clear HD hU hown C
    go_wp2_with fail
    refine C1.mono ?_
    rintro e w2 ⟨rfl, hb2⟩
    go_wp2_with fail
    go_ret3
    exact ⟨rfl, bel_trans hb1 hb2⟩
  · have e1 : allP s h = ([], 1) := by unfold allP; rw [if_neg (by omega), if_neg hg]
    have e2 : twinsP s h = ([], [], false) := by unfold twinsP; rw [if_neg hg]
    rw [e1] at E
    rw [e2]
    obtain ⟨a, cap, rfl, h1, h2, h3, HC⟩ := hT.some_at
    clear HC hT hB hg e1 e2
    go_enter Tryd.func23, Tryd.ntmps23
    go_wp2_with fail
    refine E.mono ?_
    rintro e w1 ⟨r, rfl, hb1, hown⟩
    obtain ⟨rfl, _⟩ | ⟨g, c, cur, rfl, _⟩ := hown.2
    · go_wp2_with fail
      go_ret3
      exact ⟨rfl, hb1⟩
    · go_wp2_with fail
      go_ret3
      exact ⟨rfl, hb1⟩
end Go.Proofs.YtihggfkenhkglaaDoor
