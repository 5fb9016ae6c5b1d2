/-
  What pass.Equal answers.
-/
import Derived.Test.YtjhklkckiogobaaDoorZBase
import Derived.Test.YtjhklkckiogobaaDoorProg
import Derived.Test.YtjhklkckiogobaaDoorGJ
import Derived.BigQuiet
import Derived.Deep.QuietTactic
namespace Go.Proofs.YtjhklkckiogobaaDoor
set_option maxRecDepth 100000
open Go.RowKit
set_option linter.unusedVariables false
attribute [local go_sem] ba_size ba_get wrap_byte
theorem ofInt_u8 (n : Nat) (h : n < 256) : (BitVec.ofInt 8 (n : Int)).toNat = n := by rw [BitVec.toNat_ofInt]; omega
theorem u8_xor_nat (a b : Nat) (ha : a < 256) (hb : b < 256) : bits .xor .u8 (a : Int) (b : Int) = ((a ^^^ b : Nat) : Int) := by
  have hx : a ^^^ b < 2 ^ 8 := Nat.xor_lt_two_pow (by omega) (by omega)
  show IntKind.u8.wrap ((BitVec.ofInt 8 (a : Int) ^^^ BitVec.ofInt 8 (b : Int)).toNat : Int) = _
  rw [BitVec.toNat_xor, ofInt_u8 a (by omega), ofInt_u8 b (by omega), IntKind.wrap_u8]
  omega
theorem u8_or_nat (a b : Nat) (ha : a < 256) (hb : b < 256) : bits .or .u8 (a : Int) (b : Int) = ((a ||| b : Nat) : Int) := by
  have hx : a ||| b < 2 ^ 8 := Nat.or_lt_two_pow (by omega) (by omega)
  show IntKind.u8.wrap ((BitVec.ofInt 8 (a : Int) ||| BitVec.ofInt 8 (b : Int)).toNat : Int) = _
  rw [BitVec.toNat_or, ofInt_u8 a (by omega), ofInt_u8 b (by omega), IntKind.wrap_u8]
  omega
theorem or_xor_u8 (x a b : UInt8) : bits .or .u8 (x.toNat : Int) (bits .xor .u8 (a.toNat : Int) (b.toNat : Int)) = ((x ||| (a ^^^ b)).toNat : Int) := by
  have h1 := x.toNat_lt
  have h2 := a.toNat_lt
  have h3 := b.toNat_lt
  have hx : a.toNat ^^^ b.toNat < 2 ^ 8 := Nat.xor_lt_two_pow (by omega) (by omega)
  rw [u8_xor_nat _ _ (by omega) (by omega), u8_or_nat _ _ (by omega) (by omega), UInt8.toNat_or, UInt8.toNat_xor]
theorem or_xor_zero (x a b : UInt8) : x ||| (a ^^^ b) = 0 ↔ x = 0 ∧ a = b := by
  rw [UInt8.or_eq_zero_iff, UInt8.xor_eq_zero_iff]
set_option maxHeartbeats 1000000 in
theorem equal5_any (a b : List UInt8) (ha : a.length ≤ 9223372036854775807) (hb : b.length ≤ 9223372036854775807) (w : World) :
    Calls Tryd.prog 15 #[.string ⟨a.toArray⟩, .string ⟨b.toArray⟩] w fun e w' => e = .returned (.bool (a == b)) ∧ Below w.heap.size w w' := by
  by_cases hl : a.length = b.length
  · have j : ((a.length : Int) != (b.length : Int)) = false := by rw [hl]; simp
    have HL : Hid (a.length = b.length) := hl
    clear hl
    go_enter Tryd.func15, Tryd.ntmps15
    go_wp2_with fail
    go_loopw [5, 14] (fun u i wr => ∃ (k : Nat) (x : UInt8), k ≤ a.length ∧ u = .int .u8 (x.toNat : Int) ∧ i = .int .i64 k ∧ Hid (x = 0 ↔ a.take k = b.take k) ∧ Below w.heap.size w wr) (fun _ i _ => a.length - (intOf i).toNat)
    case atStart => exact ⟨0, 0, Nat.zero_le _, rfl, rfl, (by simp : _ ↔ _), Below.refl _ _⟩
    case round =>
      obtain ⟨k, x, hk, rfl, rfl, HX, hbw⟩ := hrel
      by_cases hlt : k < a.length
      · have hk2 : k < b.length := by have := HL.out; omega
        go_wp2_with fail
        go_quiet (fail)
        go_wp2_with fail
        refine ⟨⟨k + 1, x ||| (a[k] ^^^ b[k]), by omega, by rw [or_xor_u8], rfl, ?_, below_drewN hbw _⟩, by simp [intOf]; omega⟩
        show _ ↔ _
        rw [or_xor_zero, HX.out, List.take_succ_eq_append_getElem hlt, List.take_succ_eq_append_getElem hk2]
        constructor
        · rintro ⟨h1, h2⟩
          rw [h1, h2]
        · intro h
          have h' := List.append_inj h (by simp; omega)
          exact ⟨h'.1, by simpa using h'.2⟩
      · go_wp2_with fail
        go_ret
        refine ⟨?_, hbw⟩
        have hx := HX.out
        rw [List.take_of_length_le (by omega), List.take_of_length_le (by have := HL.out; omega)] at hx
        by_cases h0 : x = 0
        · rw [hx.1 h0, h0]
          simp
        · have hne : ¬ a = b := fun h => h0 (hx.2 h)
          have : ¬ x.toNat = 0 := fun h => h0 (UInt8.toNat_inj.1 h)
          have e1 : (a == b) = false := by rw [beq_eq_false_iff_ne]; exact hne
          have e2 : ((x.toNat : Int) == 0) = false := by rw [beq_eq_false_iff_ne]; omega
          rw [e1, ← e2]
          rfl
  · have j : ((a.length : Int) != (b.length : Int)) = true := by simp; omega
    have e : (a == b) = false := by
      rw [beq_eq_false_iff_ne]
      intro h
      exact hl (by rw [h])
    rw [e]
    go_enter Tryd.func15, Tryd.ntmps15
    go_wp2_with fail
    go_ret
    exact ⟨rfl, Below.refl _ _⟩
end Go.Proofs.YtjhklkckiogobaaDoor
