/-
  Rows of edges, cloned by the library.
-/
import Derived.Test.YtpfpkpaodlmlaaaGH
import Derived.Test.YtpfpkpaodlmlaaaGE
namespace Go.Proofs.Ytpfpkpaodlmlaaa
set_option maxRecDepth 100000
open Go.RowKit
set_option linter.unusedVariables false
attribute [local go_sem] ba_size
set_option maxHeartbeats 2000000 in
theorem pcloneE_any (v : Value) (L : List Ed) (w : World) (hO : IsEds w v L) (hn : L.length ≤ 3518437208780) :
    Calls Try.prog 38 #[v] w fun e w' => ∃ u, e = .returned u ∧ Below w.heap.size w w' ∧ w'.ownsRow w.heap.size 66 5 u L.length (recV edV L) := by
  obtain ⟨i0, hi, hz0, hz1, hz2⟩ := info_parts ed_info
  have qT : ∀ (w : World) (a : Option Addr) (n c n' c' : Nat), (binOp .eql 35 (.slice a n c) (.slice none n' c')).run Try.prog w = .ok (.bool a.isNone) w := fun w a n c n' c' => Lib.run_eql_slice_nil w _ _ a n c n' c' Try.underlying35
  obtain ⟨a, cap, rfl, q1, q2, q3, HCn⟩ := hO.some_at
  cases a with
  | none =>
    have h0 : L = [] := by
      rcases Nat.eq_zero_or_pos L.length with h | h
      · exact List.length_eq_zero_iff.1 h
      · obtain ⟨_, _, e, _⟩ := HCn.out 0 h
        cases e
    subst h0
    clear hO HCn
    go_enter Try.func38, Try.ntmps38
    go_wp2_with fail
    go_ret
    exact ⟨_, rfl, Below.refl _ _, World.ownsRow_nil _ _ _ _⟩
  | some ad =>
    have E0 := own_empty8 w 66 5
    have BE := (Below.refl w.heap.size w).alloc (Nat.le_refl _) (.cells #[] 66)
    have SRC := IsRec.src edV_len (by omega) hO BE
    have LEN := recV_length edV_len L
    have ONE := recV_one (enc := edV) (fun x u hu => by simp [edV] at hu; rcases hu with rfl | rfl | rfl | rfl | rfl <;> rfl) L
    obtain ⟨n, hnn⟩ : ∃ n, L.length = n := ⟨_, rfl⟩
    have HN : Hid (L.length = n) := hnn
    rw [hnn] at q1 q3 LEN hn ⊢
    clear HCn hnn
    go_enter Try.func38, Try.ntmps38
    go_wp2_with (at_builtin; refine wpList_append_own _ rfl _ _ 35 rfl w.heap.size 66 i0 _ 5 40 Try.underlying35 hi hz0 hz1 hz2 rfl (by decide) _ _ _ rfl E0 ad n cap (recV edV L) rfl LEN SRC ONE ?d3 ?d4 ?d5 ?_)
    case d3 => unfold maxLen; omega
    case d4 => omega
    case d5 => simp
    intro v1 w1 own1 g1 _
    have hB1 : Below w.heap.size w w1 := BE.grown g1 (by simp) (fun j hj => (E0.lt j hj).1)
    (try rw [List.nil_append, Nat.zero_add] at own1)
    go_wp2_with fail
    go_ret
    refine ⟨_, rfl, hB1, ?_⟩
    exact own1
end Go.Proofs.Ytpfpkpaodlmlaaa
