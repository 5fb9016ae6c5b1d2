/-
  What cartoucheref10.committed answers.
-/
import Derived.Test.YteehpkkkagdckaaGE
import Derived.Test.YteehpkkkagdckaaGR
namespace Go.Proofs.Yteehpkkkagdckaa
set_option maxRecDepth 100000
open Go.RowKit
set_option linter.unusedVariables false
attribute [local go_sem] ba_size
set_option maxHeartbeats 1000000 in
theorem rcomm_any (h : List Ev) (v : Value) (w : World) (hT : IsEvs w v h) (t : Int) :
    Calls Try.prog 36 #[v, .int .i64 t] w fun e w' => e = .returned (.int .i64 (oI (commL h t))) ∧ Below w.heap.size w w' := by
  have D := rend_any h v w hT t h.length (Nat.le_refl _)
  obtain ⟨a, cap, rfl, h1, h2, h3, HC⟩ := hT.reads
  obtain ⟨n, hn⟩ : ∃ n, h.length = n := ⟨_, rfl⟩
  have HN : Hid (h.length = n) := hn
  rcases he : endL h t h.length with _ | e
  · rw [comm_none h t he]
    rw [he] at D
    simp only [oI] at D ⊢
    rw [hn] at D h1 h3 ⊢
    clear hT hn he
    go_enter Try.func36, Try.ntmps36
    go_wp2_with fail
    refine D.mono ?_
    rintro e w1 ⟨rfl, b1⟩
    go_wp2_with fail
    go_ret
    exact ⟨rfl, b1⟩
  · have hel : e < h.length := ((fi_some _ _ _).1 he).1
    have HE : Hid (e < h.length) := hel
    obtain ⟨bb, off, rfl, HQ⟩ := HC.out (by omega)
    have j1 : ¬ (e : Int) < 0 := by omega
    rw [he] at D
    simp only [oI] at D
    by_cases h4 : (ev h e).1 = 4
    · rw [comm_yes h t e he h4]
      have HX : Hid ((ev h e).1 = 4) := h4
      simp only [oI]
      rw [hn] at D h1 h3 hel ⊢
      clear hT hn he h4 HC
      go_enter Try.func36, Try.ntmps36
      go_wp2_with fail
      refine D.mono ?_
      rintro e' w1 ⟨rfl, b1⟩
      obtain ⟨c0, _, _, _⟩ := HQ.out e HE.out _ b1
      rw [HX.out] at c0
      go_wp2_with fail
      go_ret
      exact ⟨rfl, b1⟩
    · rw [comm_no h t e he h4]
      obtain ⟨x0, hx⟩ : ∃ x0, (ev h e).1 = x0 := ⟨_, rfl⟩
      have HX : Hid ((ev h e).1 = x0) := hx
      have e4 : (x0 != 4) = true := by rw [← hx]; simpa using h4
      simp only [oI]
      rw [hn] at D h1 h3 hel ⊢
      clear hT hn he h4 HC hx
      go_enter Try.func36, Try.ntmps36
      go_wp2_with fail
      refine D.mono ?_
      rintro e' w1 ⟨rfl, b1⟩
      obtain ⟨c0, _, _, _⟩ := HQ.out e HE.out _ b1
      rw [HX.out] at c0
      go_wp2_with fail
      go_ret
      exact ⟨rfl, b1⟩
end Go.Proofs.Yteehpkkkagdckaa
