/-
  What cartoucheref01.Num answers, at whatever number.
-/
import Derived.Test.YtpplplemjccdjaaConv
namespace Go.Proofs.Ytpplplemjccdjaa
open Go.RowKit
attribute [local go_sem] ba_size ba_get ba_extract ba_append wrap_byte wrap_u64_byte take_drop_end
theorem low_succ (k v : Nat) : Lm.low (k + 1) v = UInt8.ofNat (v / 256 ^ k % 256) :: Lm.low k v := by
  rw [Lm.low]; congr 1; apply UInt8.toNat_inj.1; simp
theorem low_le (k v : Nat) (h : k ≤ 8) : (Lm.low k v).length ≤ 8 := by rw [Lm.low_length]; exact h
set_option maxHeartbeats 400000 in
theorem refNum_any (v : Nat) (hv : v < 18446744073709551616) (w : World) :
    Calls Try.prog 17 #[.int .u64 v] w fun e w' => e = .returned (.string ⟨(Lm.numL v).toArray⟩) ∧ Below w.heap.size w w' := by
  have c1 := conv1
  go_enter Try.func17, Try.ntmps17
  go_wp2
  go_loopw [0, 3, 4] (fun a s i wr => ∃ k : Nat, k ≤ 8 ∧ a = .int .u64 ((v / 256 ^ k : Nat) : Int) ∧ s = .string ⟨(Lm.low k v).toArray⟩ ∧ i = .int .i64 (k : Int) ∧ (k = 0 ∨ 0 < v / 256 ^ (k - 1)) ∧ Below w.heap.size w wr)
    (fun _ _ i _ => 8 - (intOf i).toNat)
  case atStart => exact ⟨0, by omega, by simp, rfl, rfl, .inl rfl, Below.refl _ _⟩
  case round =>
    obtain ⟨k, hk8, rfl, rfl, rfl, hk, hbw⟩ := hrel
    by_cases hlt : 0 < v / 256 ^ k
    · have hk8 := Lm.loop_le v k (by omega) hlt
      have hx : ((v / 256 ^ k : Nat) : Int) < 18446744073709551616 := by have := Nat.div_le_self v (256 ^ k); omega
      have hD : v / 256 ^ (k + 1) = v / 256 ^ k / 256 := by rw [Nat.pow_succ, Nat.div_div_eq_div_mul]
      generalize hxx : v / 256 ^ k = x at *
      have HD : Hid _ := hD; clear hD
      have HX : Hid _ := hxx; clear hxx
      have hll := low_le k v (by omega)
      go_wp2
      go_roundw
      case rel => exact ⟨k + 1, by omega, by rw [HD.out]; simp, by rw [low_succ, HX.out], by go_num, .inr (by simpa [HX.out] using hlt), hbw.alloc hbw.size _⟩
      case measure => simp [intOf]; omega
    · have hz : v / 256 ^ k = 0 := Nat.eq_zero_of_not_pos hlt
      obtain rfl := Lm.cnt_of_loop v k (by omega) hk hz
      rw [hz]
      clear hz hlt hk
      have hll := low_le (Lm.cnt v) v hk8
      go_wp2
      go_ret
      exact ⟨rfl, hbw.alloc hbw.size _⟩
end Go.Proofs.Ytpplplemjccdjaa
