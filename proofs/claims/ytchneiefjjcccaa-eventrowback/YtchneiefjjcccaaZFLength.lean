/-
  What lump.length answers.
-/
import Derived.Test.YtchneiefjjcccaaZConv
namespace Go.Proofs.Ytchneiefjjcccaa
set_option maxRecDepth 100000
open Go.RowKit
attribute [local go_sem] ba_size ba_get ba_extract ba_append wrap_byte wrap_u64_byte take_drop_end
theorem slice75 (w : World) (b m : Nat) (hm : m < 3) :
    (Instr.sliceAt 70 (.pointer (some ⟨b, 0, none⟩)) (some (.int .i64 (m : Int))) none none).run Try.prog w = .ok (.slice (some ⟨b, m, none⟩) (3 - m) (3 - m)) w := by
  have hl : Try.prog.arrayLen 70 = 3 := by kernel_rfl
  have hz : ∀ w, (Go.sizeOf (Try.prog.elem 70)).run Try.prog w = .ok 1 w := fun w => by kernel_rfl
  rw [run_sliceAt_array_l w 70 ⟨b, 0, none⟩ (by kernel_rfl) .i64 m (by omega) (by rw [hl]; omega), hl, hz]
  simp only [Result.andThen, slicedAt, Int.toNat_natCast]
  rw [if_neg (by omega)]
  unfold Addr.add; split <;> simp_all
set_option maxHeartbeats 400000 in
theorem length_any (n : Nat) (hn : n ≤ 65535) (w : World) :
    Calls Try.prog 33 #[.int .i64 n] w fun e w' => e = .returned (.string ⟨(Lm.lenL n).toArray⟩) ∧ Below w.heap.size w w' := by
  have s0 := fun W b => slice75 W b 0 (by omega)
  have s2 := fun W b => slice75 W b 2 (by omega)
  have c1 := conv3_1
  have c3 := conv3
  simp only [Int.natCast_zero, Nat.sub_zero] at s0
  simp only [Nat.reduceSub] at s2
  by_cases h : n ≤ 250
  · go_enter Try.func33, Try.ntmps33
    go_wp2
    go_ret
    exact ⟨ret_str (nums_short n h), (Below.refl _ _).alloc (Nat.le_refl _) _⟩
  · go_enter Try.func33, Try.ntmps33
    go_wp2
    go_ret
    exact ⟨ret_str (nums_long n h), (Below.refl _ _).alloc (Nat.le_refl _) _⟩
end Go.Proofs.Ytchneiefjjcccaa
