/-
  What cartoucheref08.Last answers.
-/
import Derived.Test.YtljgflgfcbmgiaaGE
namespace Go.Proofs.Ytljgflgfcbmgiaa
set_option maxRecDepth 100000
open Go.RowKit
set_option linter.unusedVariables false
attribute [local go_sem] ba_size
set_option maxHeartbeats 2000000 in
theorem rlast_any (h : List Ev) (v : Value) (w : World) (hT : IsEvs w v h) (t : Int) (key : List UInt8) (before : Int) :
    Calls Try.prog 21 #[v, .int .i64 t, .string ⟨key.toArray⟩, .int .i64 before] w fun e w' => e = .returned (.int .i64 (oI (lastL h t key before))) ∧ Below w.heap.size w w' := by
  obtain ⟨a, cap, rfl, h1, h2, h3, HC⟩ := hT.reads
  obtain ⟨n, hn⟩ : ∃ n, h.length = n := ⟨_, rfl⟩
  have HN : Hid (h.length = n) := hn
  rw [hn] at h1 h3 ⊢
  clear hT hn
  go_enter Try.func21, Try.ntmps21
  go_wp2_with fail
  go_loopw [9, 10] (fun o i wr => ∃ k : Nat, k ≤ n ∧ (k = 0 ∨ (k : Int) ≤ before) ∧ o = .int .i64 (oI (lastN h t key k)) ∧ i = .int .i64 k ∧ Below w.heap.size w wr) (fun _ i _ => n - (intOf i).toNat)
  case atStart => exact ⟨0, Nat.zero_le _, Or.inl rfl, rfl, rfl, Below.refl _ _⟩
  case round =>
    obtain ⟨k, hk, hkb, rfl, rfl, hbw⟩ := hrel
    by_cases hlt : k < n
    · by_cases hlb : (k : Int) < before
      · have hk1 : k < h.length := by have := HN.out; omega
        obtain ⟨bb, off, rfl, HQ⟩ := HC.out (by omega)
        obtain ⟨c0, c1, c2, c3⟩ := HQ.out k hk1 _ hbw
        obtain ⟨⟨x0, x1, x2, x3⟩, hx⟩ : ∃ x, ev h k = x := ⟨_, rfl⟩
        have HX : Hid (ev h k = (x0, x1, x2, x3)) := hx
        rw [hx] at c0 c1 c2 c3
        simp only at c0 c1 c2 c3
        clear hx
        by_cases d : x0 = 3
        · have e1 : (x0 == 3) = true := by rw [d]; rfl
          by_cases d4 : x1 = t
          · have e4 : (x1 == t) = true := by rw [d4]; exact beq_self_eq_true _
            by_cases d5 : x2 = key
            · have e5 : (x2 == key) = true := by rw [d5]; exact beq_self_eq_true _
              have HS : Hid (lastN h t key (k + 1) = some k) := by
                show la (isWrT h t key) (k + 1) = _
                rw [la, show isWrT h t key k = true by show decide _ = true; rw [HX.out]; exact decide_eq_true (⟨d, d4, d5⟩)]; rfl
              go_wp2_with fail
              refine ⟨?relA, ?meaA⟩
              case relA => exact ⟨k + 1, by omega, by omega, by rw [HS.out] <;> rfl, by first | go_num | simp, hbw⟩
              case meaA => simp [intOf]; omega
            · have e5 : (x2 == key) = false := beq_eq_false_iff_ne.2 d5
              have HS : Hid (lastN h t key (k + 1) = lastN h t key k) := by
                show la (isWrT h t key) (k + 1) = _
                rw [la, show isWrT h t key k = false by show decide _ = false; rw [HX.out]; exact decide_eq_false (fun hh => d5 hh.2.2)]; rfl
              go_wp2_with fail
              refine ⟨?relB, ?meaB⟩
              case relB => exact ⟨k + 1, by omega, by omega, by rw [HS.out] <;> rfl, by first | go_num | simp, hbw⟩
              case meaB => simp [intOf]; omega
          · have e4 : (x1 == t) = false := beq_eq_false_iff_ne.2 d4
            have HS : Hid (lastN h t key (k + 1) = lastN h t key k) := by
              show la (isWrT h t key) (k + 1) = _
              rw [la, show isWrT h t key k = false by show decide _ = false; rw [HX.out]; exact decide_eq_false (fun hh => d4 hh.2.1)]; rfl
            go_wp2_with fail
            refine ⟨?relC, ?meaC⟩
            case relC => exact ⟨k + 1, by omega, by omega, by rw [HS.out] <;> rfl, by first | go_num | simp, hbw⟩
            case meaC => simp [intOf]; omega
        · have e1 : (x0 == 3) = false := beq_eq_false_iff_ne.2 d
          have HS : Hid (lastN h t key (k + 1) = lastN h t key k) := by
            show la (isWrT h t key) (k + 1) = _
            rw [la, show isWrT h t key k = false by show decide _ = false; rw [HX.out]; exact decide_eq_false (fun hh => d hh.1)]; rfl
          go_wp2_with fail
          refine ⟨?relD, ?meaD⟩
          case relD => exact ⟨k + 1, by omega, by omega, by rw [HS.out] <;> rfl, by first | go_num | simp, hbw⟩
          case meaD => simp [intOf]; omega
      · have HR : Hid (lastL h t key before = lastN h t key k) := last_end h t key before k (by have := HN.out; omega) hkb (Or.inr (by omega))
        go_wp2_with fail
        go_ret
        exact ⟨by rw [HR.out]; rfl, hbw⟩
    · have HR : Hid (lastL h t key before = lastN h t key k) := last_end h t key before k (by have := HN.out; omega) hkb (Or.inl (by have := HN.out; omega))
      go_wp2_with fail
      go_ret
      exact ⟨by rw [HR.out]; rfl, hbw⟩
end Go.Proofs.Ytljgflgfcbmgiaa
