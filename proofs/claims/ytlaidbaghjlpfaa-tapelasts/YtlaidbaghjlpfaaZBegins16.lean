/-
  What cartouchelaw16.begins answers of a row that is another one's beginning.
-/
import Derived.Test.YtlaidbaghjlpfaaZLast16
namespace Go.Proofs.Ytlaidbaghjlpfaa
set_option maxRecDepth 100000
open Go.RowKit
set_option linter.unusedVariables false
attribute [local go_sem] ba_size
set_option maxHeartbeats 1000000 in
theorem begins16_any (A B : List (List UInt8)) (v1 v2 : Value) (w : World) (B1 B2 : Nat) (h1 : Row16 w B1 v1 A) (h2 : Row16 w B2 v2 B) (hp : A <+: B) (hn : B.length ≤ 1000) (hl : ∀ t ∈ B, t.length ≤ 65535) :
    Calls Try.prog 25 #[v1, v2] w fun e w' => e = .returned (.bool true) ∧ Below w.heap.size w w' := by
  have hle := hp.length_le
  have t1 : IsTxt w v1 A := h1.txt (by omega) (fun t ht => hl t (hp.subset ht))
  have t2 : IsTxt w v2 B := h2.txt (by omega) hl
  have e := List.prefix_iff_eq_take.1 hp
  obtain ⟨a1, c1, rfl, _, _⟩ := h1.len
  have m0 : (A.length : Int) ≤ (B.length : Int) := by omega
  rcases h2.2 with ⟨rfl, h0⟩ | ⟨g, c2, cur, rfl, _, _, hc, hm, _⟩
  · have hB : B = [] := List.length_eq_zero_iff.1 h0
    subst hB
    have hA : A = [] := List.length_eq_zero_iff.1 (by simpa using hle)
    subst hA
    have D := same_txt _ _ [] [] w t1 t2
    rw [decide_eq_true rfl] at D
    simp only [List.length_nil] at D ⊢
    clear t1 t2 h1 h2
    go_enter Try.func25, Try.ntmps25
    go_wp2_with fail
    refine D.mono ?_
    rintro e w1 ⟨rfl, b1⟩
    go_wp2_with fail
    go_ret
    exact ⟨rfl, b1⟩
  · have t3 := t2.takes A.length hle
    rw [← e] at t3
    have D := same_txt _ _ A A w t1 t3
    rw [decide_eq_true rfl] at D
    have m1 : A.length ≤ c2 := by omega
    have m2 : (A.length : Int) ≤ (c2 : Int) := by omega
    unfold maxLen at hm
    clear t1 t2 t3 h1 h2 e
    go_enter Try.func25, Try.ntmps25
    go_wp2_with fail
    refine D.mono ?_
    rintro e w1 ⟨rfl, b1⟩
    go_wp2_with fail
    go_ret
    exact ⟨rfl, b1⟩
end Go.Proofs.Ytlaidbaghjlpfaa
