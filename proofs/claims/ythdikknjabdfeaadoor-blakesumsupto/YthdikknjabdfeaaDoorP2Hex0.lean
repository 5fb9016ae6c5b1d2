/-
  What blake.Hex answers to the empty text; and to any.
-/
import Derived.Test.YthdikknjabdfeaaDoorP2Hex
namespace Go.Proofs.YthdikknjabdfeaaDoor
open Go.RowKit
set_option linter.unusedVariables false
attribute [local go_sem] ba_size ba_get
set_option maxHeartbeats 1000000 in
set_option maxRecDepth 100000 in
theorem string_none (b : Nat) (w : World) (h1 : w.cell? ⟨b, 1, none⟩ = some (.slice none 0 0)) :
    Calls Tryd.prog 34 #[.pointer (some ⟨b, 0, none⟩)] w fun e w' => e = .returned (.string ⟨#[]⟩) ∧ Below w.heap.size w w' := by
  have hSD : (Builtin.unsafeSliceData_ #[64] 76 #[.slice none 0 0]).run Tryd.prog w.drew = .ok (.pointer none) w.drew := Lib.run_unsafeSliceData_nil _ _ _ _ _
  have hUS : (Builtin.unsafeString_ #[76, 3] 9 #[.pointer none, .int .i64 0]).run Tryd.prog w.drew = .ok (.string ⟨#[]⟩) w.drew := Lib.run_unsafeString_none _ _ _ _ _
  have c1 : w.drew.cell? ⟨b, 1, none⟩ = some (.slice none 0 0) := h1
  go_enter Tryd.func34, Tryd.ntmps34
  go_wp2
  go_region
  all_goals (go_wp2; go_ret; exact ⟨rfl, Below.drew (Below.refl _ w)⟩)
set_option maxHeartbeats 1000000 in
theorem hex_none (w : World) :
    Calls Tryd.prog 18 #[.string ⟨([] : List UInt8).toArray⟩] w fun e w' => e = .returned (.string ⟨(hexL []).toArray⟩) ∧ Below w.heap.size w w' := by
  go_enter Tryd.func18, Tryd.ntmps18
  go_wp2
  refine wp_loop_rounds 1 ?_
  rw [rounds_succ]
  go_wp2_with fail
  refine (string_none w.heap.size _ (by rw [World.cell?_alloc_new]; rfl)).mono ?_
  rintro e w1 ⟨rfl, hb1⟩
  go_wp2_with fail
  go_ret
  exact ⟨rfl, bel_trans ((Below.refl _ _).alloc (Nat.le_refl _) _) hb1⟩
theorem fig_inj (m n : Nat) (hm : m < 16) (hn : n < 16) (h : fig m = fig n) : m = n := by
  have hc : ∀ m, m < 16 → ∀ n, n < 16 → fig m = fig n → m = n := by decide
  exact hc m hm n hn h
theorem hexL_inj : ∀ a b : List UInt8, hexL a = hexL b → a = b
  | [], [], _ => rfl
  | [], _ :: _, h => by simp [hexL] at h
  | _ :: _, [], h => by simp [hexL] at h
  | x :: a, y :: b, h => by
    simp only [hexL, List.cons.injEq] at h
    have hx := x.toNat_lt
    have hy := y.toNat_lt
    have h1 := fig_inj _ _ (by omega) (by omega) h.1
    have h2 := fig_inj _ _ (by omega) (by omega) h.2.1
    have h3 : x.toNat = y.toNat := by omega
    rw [hexL_inj a b h.2.2, UInt8.toNat_inj.1 h3]
theorem hex_all (S : List UInt8) (hS : 2 * S.length ≤ 140737488355328) (w : World) :
    Calls Tryd.prog 18 #[.string ⟨S.toArray⟩] w fun e w' => e = .returned (.string ⟨(hexL S).toArray⟩) ∧ Below w.heap.size w w' := by
  by_cases h0 : S = []
  · subst h0; exact hex_none w
  · exact hex_any S h0 hS w
end Go.Proofs.YthdikknjabdfeaaDoor
