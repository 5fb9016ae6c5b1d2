/-
  What lump.length, cartoucheref01.size, and both Text answer.
-/
import Derived.Test.YtpplplemjccdjaaProg
import Derived.Test.YtpplplemjccdjaaMath
import Derived.Test.YtpplplemjccdjaaBase
import Derived.BigQuiet
import Derived.Deep.QuietTactic
namespace Go.Proofs.Ytpplplemjccdjaa
open Go.RowKit
attribute [local go_sem] ba_size ba_get ba_extract ba_append wrap_byte wrap_u64_byte take_drop_end
/-- A row of bytes that was made just now, as a string. -/
theorem conv_row (W : World) (C : Array Value) (t : TypeId) (off n cap : Nat) (xs : List Int) (hn : xs.length = n) (hc : ∀ i, i < n → C[off + i]? = some (.int .u8 (xs.getD i 0))) :
    (convert 62 9 (.slice (some ⟨W.heap.size, off, none⟩) n cap)).run Try.prog (W.alloc (.cells C t)) = .ok (.string (strOfNums xs)) (W.alloc (.cells C t)) :=
  run_convert_bytes_arg (P := Try.prog) (W.alloc (.cells C t)) 62 5 (by kernel_rfl) (by kernel_rfl) W.heap.size off n cap xs hn (fun i hi => by rw [World.cell?_alloc_new]; exact hc i hi) 9 (by kernel_rfl)
theorem conv1 (W : World) (x : Int) (t : TypeId) :
    (convert 62 9 (.slice (some ⟨W.heap.size, 0, none⟩) 1 1)).run Try.prog (W.alloc (.cells #[.int .u8 x] t)) = .ok (.string ⟨[UInt8.ofNat x.toNat].toArray⟩) (W.alloc (.cells #[.int .u8 x] t)) :=
  conv_row W _ t 0 1 1 [x] rfl (fun i hi => by obtain rfl : i = 0 := by omega
                                               rfl)
theorem conv3 (W : World) (x y z : Int) (t : TypeId) :
    (convert 62 9 (.slice (some ⟨W.heap.size, 0, none⟩) 3 3)).run Try.prog (W.alloc (.cells #[.int .u8 x, .int .u8 y, .int .u8 z] t)) = .ok (.string ⟨[UInt8.ofNat x.toNat, UInt8.ofNat y.toNat, UInt8.ofNat z.toNat].toArray⟩) (W.alloc (.cells #[.int .u8 x, .int .u8 y, .int .u8 z] t)) :=
  conv_row W _ t 0 3 3 [x, y, z] rfl (fun i hi => by
    have : i = 0 ∨ i = 1 ∨ i = 2 := by omega
    rcases this with rfl | rfl | rfl <;> rfl)
theorem conv3_1 (W : World) (x y z : Int) (t : TypeId) :
    (convert 62 9 (.slice (some ⟨W.heap.size, 2, none⟩) 1 1)).run Try.prog (W.alloc (.cells #[.int .u8 x, .int .u8 y, .int .u8 z] t)) = .ok (.string ⟨[UInt8.ofNat z.toNat].toArray⟩) (W.alloc (.cells #[.int .u8 x, .int .u8 y, .int .u8 z] t)) :=
  conv_row W _ t 2 1 1 [z] rfl (fun i hi => by obtain rfl : i = 0 := by omega
                                               rfl)
theorem slice75 (w : World) (b m : Nat) (hm : m < 3) :
    (Instr.sliceAt 75 (.pointer (some ⟨b, 0, none⟩)) (some (.int .i64 (m : Int))) none none).run Try.prog w = .ok (.slice (some ⟨b, m, none⟩) (3 - m) (3 - m)) w := by
  have hl : Try.prog.arrayLen 75 = 3 := by kernel_rfl
  have hz : ∀ w, (Go.sizeOf (Try.prog.elem 75)).run Try.prog w = .ok 1 w := fun w => by kernel_rfl
  rw [run_sliceAt_array_l w 75 ⟨b, 0, none⟩ (by kernel_rfl) .i64 m (by omega) (by rw [hl]; omega), hl, hz]
  simp only [Result.andThen, slicedAt, Int.toNat_natCast]
  rw [if_neg (by omega)]
  unfold Addr.add; split <;> simp_all
theorem lenL_le (n : Nat) : (Lm.lenL n).length ≤ 3 := by unfold Lm.lenL; split <;> simp
theorem low_succ (k v : Nat) : Lm.low (k + 1) v = UInt8.ofNat (v / 256 ^ k % 256) :: Lm.low k v := by
  rw [Lm.low]; congr 1; apply UInt8.toNat_inj.1; simp
theorem low_le (k v : Nat) (h : k ≤ 8) : (Lm.low k v).length ≤ 8 := by rw [Lm.low_length]; exact h
theorem nums_short (n : Nat) (h : n ≤ 250) : (⟨[UInt8.ofNat n].toArray⟩ : ByteArray) = ⟨(Lm.lenL n).toArray⟩ := by
  simp [Lm.lenL, h]
theorem nums_long (n : Nat) (h : ¬ n ≤ 250) : (⟨[251, UInt8.ofNat ((n : Int) / 256).toNat, UInt8.ofNat ((n : Int) % 256).toNat].toArray⟩ : ByteArray) = ⟨(Lm.lenL n).toArray⟩ := by
  have e1 : ((n : Int) / 256).toNat = n / 256 := by omega
  have e2 : ((n : Int) % 256).toNat = n % 256 := by omega
  simp only [Lm.lenL, h, if_false, e1, e2]
set_option maxHeartbeats 400000 in
theorem length_any (n : Nat) (hn : n ≤ 65535) (w : World) :
    Calls Try.prog 27 #[.int .i64 n] w fun e w' => e = .returned (.string ⟨(Lm.lenL n).toArray⟩) ∧ Below w.heap.size w w' := by
  have s0 := fun W b => slice75 W b 0 (by omega)
  have s2 := fun W b => slice75 W b 2 (by omega)
  have c1 := conv3_1
  have c3 := conv3
  simp only [Int.natCast_zero, Nat.sub_zero] at s0
  simp only [Nat.reduceSub] at s2
  by_cases h : n ≤ 250
  · go_enter Try.func27, Try.ntmps27
    go_wp2
    go_ret
    exact ⟨ret_str (nums_short n h), (Below.refl _ _).alloc (Nat.le_refl _) _⟩
  · go_enter Try.func27, Try.ntmps27
    go_wp2
    go_ret
    exact ⟨ret_str (nums_long n h), (Below.refl _ _).alloc (Nat.le_refl _) _⟩
set_option maxHeartbeats 400000 in
theorem size_any (n : Nat) (hn : n ≤ 65535) (w : World) :
    Calls Try.prog 28 #[.int .i64 n] w fun e w' => e = .returned (.string ⟨(Lm.lenL n).toArray⟩) ∧ Below w.heap.size w w' := by
  have c1 := conv1
  have c3 := conv3
  by_cases h : n ≤ 250
  · go_enter Try.func28, Try.ntmps28
    go_wp2
    go_ret
    exact ⟨ret_str (nums_short n h), (Below.refl _ _).alloc (Nat.le_refl _) _⟩
  · go_enter Try.func28, Try.ntmps28
    go_wp2
    go_ret
    exact ⟨ret_str (nums_long n h), (Below.refl _ _).alloc (Nat.le_refl _) _⟩
set_option maxHeartbeats 400000 in
theorem text_any (l : List UInt8) (hl : l.length ≤ 9223372036854775807) (w : World) :
    Calls Try.prog 14 #[.string ⟨l.toArray⟩] w fun e w' => e = .returned (.tuple #[.string ⟨(Lm.textL l).1.toArray⟩, .int .i64 ((Lm.textL l).2 : Int)]) ∧ Below w.heap.size w w' := by
  unfold Lm.textL
  by_cases h : 65535 < l.length
  · rw [if_pos h]
    go_enter Try.func14, Try.ntmps14
    go_wp2
    go_ret2
    exact ⟨rfl, Below.refl _ _⟩
  · rw [if_neg h]
    go_enter Try.func14, Try.ntmps14
    go_wp2_with fail
    refine (length_any l.length (by omega) _).mono ?_
    rintro e w1 ⟨rfl, hb1⟩
    have hll := lenL_le l.length
    go_wp2_with fail
    go_ret2
    exact ⟨rfl, hb1⟩
set_option maxHeartbeats 400000 in
theorem refText_any (l : List UInt8) (hl : l.length ≤ 9223372036854775807) (w : World) :
    Calls Try.prog 15 #[.string ⟨l.toArray⟩] w fun e w' => e = .returned (.tuple #[.string ⟨(Lm.textL l).1.toArray⟩, .int .i64 ((Lm.textL l).2 : Int)]) ∧ Below w.heap.size w w' := by
  unfold Lm.textL
  by_cases h : 65535 < l.length
  · rw [if_pos h]
    go_enter Try.func15, Try.ntmps15
    go_wp2
    go_ret2
    exact ⟨rfl, Below.refl _ _⟩
  · rw [if_neg h]
    go_enter Try.func15, Try.ntmps15
    go_wp2_with fail
    refine (size_any l.length (by omega) _).mono ?_
    rintro e w1 ⟨rfl, hb1⟩
    have hll := lenL_le l.length
    go_wp2_with fail
    go_ret2
    exact ⟨rfl, hb1⟩
set_option maxHeartbeats 400000 in
theorem refNum_any (v : Nat) (hv : v < 18446744073709551616) (w : World) :
    Calls Try.prog 17 #[.int .u64 v] w fun e w' => e = .returned (.string ⟨(Lm.numL v).toArray⟩) ∧ Below w.heap.size w w' := by
  have c1 := conv1
  go_enter Try.func17, Try.ntmps17
  go_wp2
  go_loopw [0, 3, 4] (fun a s i wr => ∃ k : Nat, k ≤ 8 ∧ a = .int .u64 ((v / 256 ^ k : Nat) : Int) ∧ s = .string ⟨(Lm.low k v).toArray⟩ ∧ i = .int .i64 (k : Int) ∧ (k = 0 ∨ 0 < v / 256 ^ (k - 1)) ∧ Below w.heap.size w wr)
    (fun _ _ i _ => 8 - (intOf i).toNat)
  case atStart => exact ⟨0, by omega, by simp, rfl, rfl, .inl rfl, Below.refl _ _⟩
  case round =>
    obtain ⟨k, hk8, rfl, rfl, rfl, hk, hbw⟩ := hrel
    by_cases hlt : 0 < v / 256 ^ k
    · have hk8 := Lm.loop_le v k (by omega) hlt
      have hx : ((v / 256 ^ k : Nat) : Int) < 18446744073709551616 := by have := Nat.div_le_self v (256 ^ k); omega
      have hD : v / 256 ^ (k + 1) = v / 256 ^ k / 256 := by rw [Nat.pow_succ, Nat.div_div_eq_div_mul]
      generalize hxx : v / 256 ^ k = x at *
      have HD : Hid _ := hD; clear hD
      have HX : Hid _ := hxx; clear hxx
      have hll := low_le k v (by omega)
      go_wp2
      go_roundw
      case rel => exact ⟨k + 1, by omega, by rw [HD.out]; simp, by rw [low_succ, HX.out], by go_num, .inr (by simpa [HX.out] using hlt), hbw.alloc hbw.size _⟩
      case measure => simp [intOf]; omega
    · have hz : v / 256 ^ k = 0 := Nat.eq_zero_of_not_pos hlt
      obtain rfl := Lm.cnt_of_loop v k (by omega) hk hz
      rw [hz]
      clear hz hlt hk
      have hll := low_le (Lm.cnt v) v hk8
      go_wp2
      go_ret
      exact ⟨rfl, hbw.alloc hbw.size _⟩
end Go.Proofs.Ytpplplemjccdjaa
