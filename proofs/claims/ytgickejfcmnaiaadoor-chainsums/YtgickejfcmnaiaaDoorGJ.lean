/-
  A row of bytes made just now, as a string.
  What lump.length answers.
  What lump.Text answers, at whatever text.
  What cartoucheref01.size answers.
  What cartoucheref01.Text answers, at whatever text.
-/
import Derived.Test.YtgickejfcmnaiaaDoorProg
import Derived.Test.YtgickejfcmnaiaaDoorGA
import Derived.Test.YtgickejfcmnaiaaDoorGB
namespace Go.Proofs.YtgickejfcmnaiaaDoor
set_option maxRecDepth 100000
open Go.RowKit
/-- A row of bytes that was made just now, as a string. -/
theorem conv_row (W : World) (C : Array Value) (t : TypeId) (off n cap : Nat) (xs : List Int) (hn : xs.length = n) (hc : ∀ i, i < n → C[off + i]? = some (.int .u8 (xs.getD i 0))) :
    (convert 74 9 (.slice (some ⟨W.heap.size, off, none⟩) n cap)).run Tryd.prog (W.alloc (.cells C t)) = .ok (.string (strOfNums xs)) (W.alloc (.cells C t)) :=
  run_convert_bytes_arg (P := Tryd.prog) (W.alloc (.cells C t)) 74 5 (by kernel_rfl) (by kernel_rfl) W.heap.size off n cap xs hn (fun i hi => by rw [World.cell?_alloc_new]; exact hc i hi) 9 (by kernel_rfl)
theorem conv1 (W : World) (x : Int) (t : TypeId) :
    (convert 74 9 (.slice (some ⟨W.heap.size, 0, none⟩) 1 1)).run Tryd.prog (W.alloc (.cells #[.int .u8 x] t)) = .ok (.string ⟨[UInt8.ofNat x.toNat].toArray⟩) (W.alloc (.cells #[.int .u8 x] t)) :=
  conv_row W _ t 0 1 1 [x] rfl (fun i hi => by obtain rfl : i = 0 := by omega
                                               rfl)
theorem conv3 (W : World) (x y z : Int) (t : TypeId) :
    (convert 74 9 (.slice (some ⟨W.heap.size, 0, none⟩) 3 3)).run Tryd.prog (W.alloc (.cells #[.int .u8 x, .int .u8 y, .int .u8 z] t)) = .ok (.string ⟨[UInt8.ofNat x.toNat, UInt8.ofNat y.toNat, UInt8.ofNat z.toNat].toArray⟩) (W.alloc (.cells #[.int .u8 x, .int .u8 y, .int .u8 z] t)) :=
  conv_row W _ t 0 3 3 [x, y, z] rfl (fun i hi => by
    have : i = 0 ∨ i = 1 ∨ i = 2 := by omega
    rcases this with rfl | rfl | rfl <;> rfl)
theorem conv3_1 (W : World) (x y z : Int) (t : TypeId) :
    (convert 74 9 (.slice (some ⟨W.heap.size, 2, none⟩) 1 1)).run Tryd.prog (W.alloc (.cells #[.int .u8 x, .int .u8 y, .int .u8 z] t)) = .ok (.string ⟨[UInt8.ofNat z.toNat].toArray⟩) (W.alloc (.cells #[.int .u8 x, .int .u8 y, .int .u8 z] t)) :=
  conv_row W _ t 2 1 1 [z] rfl (fun i hi => by obtain rfl : i = 0 := by omega
                                               rfl)
theorem nums_short (n : Nat) (h : n ≤ 250) : (⟨[UInt8.ofNat n].toArray⟩ : ByteArray) = ⟨(Lm.lenL n).toArray⟩ := by
  simp [Lm.lenL, h]
theorem nums_long (n : Nat) (h : ¬ n ≤ 250) : (⟨[251, UInt8.ofNat ((n : Int) / 256).toNat, UInt8.ofNat ((n : Int) % 256).toNat].toArray⟩ : ByteArray) = ⟨(Lm.lenL n).toArray⟩ := by
  have e1 : ((n : Int) / 256).toNat = n / 256 := by omega
  have e2 : ((n : Int) % 256).toNat = n % 256 := by omega
  simp only [Lm.lenL, h, if_false, e1, e2]
end Go.Proofs.YtgickejfcmnaiaaDoor
namespace Go.Proofs.YtgickejfcmnaiaaDoor
set_option maxRecDepth 100000
open Go.RowKit
attribute [local go_sem] ba_size ba_get ba_extract ba_append wrap_byte wrap_u64_byte take_drop_end
theorem slice75 (w : World) (b m : Nat) (hm : m < 3) :
    (Instr.sliceAt 77 (.pointer (some ⟨b, 0, none⟩)) (some (.int .i64 (m : Int))) none none).run Tryd.prog w = .ok (.slice (some ⟨b, m, none⟩) (3 - m) (3 - m)) w := by
  have hl : Tryd.prog.arrayLen 77 = 3 := by kernel_rfl
  have hz : ∀ w, (Go.sizeOf (Tryd.prog.elem 77)).run Tryd.prog w = .ok 1 w := fun w => by kernel_rfl
  rw [run_sliceAt_array_l w 77 ⟨b, 0, none⟩ (by kernel_rfl) .i64 m (by omega) (by rw [hl]; omega), hl, hz]
  simp only [Result.andThen, slicedAt, Int.toNat_natCast]
  rw [if_neg (by omega)]
  unfold Addr.add; split <;> simp_all
set_option maxHeartbeats 400000 in
theorem length_any (n : Nat) (hn : n ≤ 65535) (w : World) :
    Calls Tryd.prog 38 #[.int .i64 n] w fun e w' => e = .returned (.string ⟨(Lm.lenL n).toArray⟩) ∧ Below w.heap.size w w' := by
  have s0 := fun W b => slice75 W b 0 (by omega)
  have s2 := fun W b => slice75 W b 2 (by omega)
  have c1 := conv3_1
  have c3 := conv3
  simp only [Int.natCast_zero, Nat.sub_zero] at s0
  simp only [Nat.reduceSub] at s2
  by_cases h : n ≤ 250
  · go_enter Tryd.func38, Tryd.ntmps38
    go_wp2
    go_ret
    exact ⟨ret_str (nums_short n h), (Below.refl _ _).alloc (Nat.le_refl _) _⟩
  · go_enter Tryd.func38, Tryd.ntmps38
    go_wp2
    go_ret
    exact ⟨ret_str (nums_long n h), (Below.refl _ _).alloc (Nat.le_refl _) _⟩
end Go.Proofs.YtgickejfcmnaiaaDoor
namespace Go.Proofs.YtgickejfcmnaiaaDoor
set_option maxRecDepth 100000
open Go.RowKit
attribute [local go_sem] ba_size ba_get ba_extract ba_append wrap_byte wrap_u64_byte take_drop_end
set_option maxHeartbeats 400000 in
theorem text_any (l : List UInt8) (hl : l.length ≤ 9223372036854775807) (w : World) :
    Calls Tryd.prog 29 #[.string ⟨l.toArray⟩] w fun e w' => e = .returned (.tuple #[.string ⟨(Lm.textL l).1.toArray⟩, .int .i64 ((Lm.textL l).2 : Int)]) ∧ Below w.heap.size w w' := by
  unfold Lm.textL
  by_cases h : 65535 < l.length
  · rw [if_pos h]
    go_enter Tryd.func29, Tryd.ntmps29
    go_wp2
    go_ret2
    exact ⟨rfl, Below.refl _ _⟩
  · rw [if_neg h]
    go_enter Tryd.func29, Tryd.ntmps29
    go_wp2_with fail
    refine (length_any l.length (by omega) _).mono ?_
    rintro e w1 ⟨rfl, hb1⟩
    have hll := Lm.lenL_le l.length
    go_wp2_with fail
    go_ret2
    exact ⟨rfl, hb1⟩
theorem text_ok (l : List UInt8) (h : ¬ 65535 < l.length) (w : World) :
    Calls Tryd.prog 29 #[.string ⟨l.toArray⟩] w fun e w' => e = .returned (.tuple #[.string ⟨(Lm.lenL l.length ++ l).toArray⟩, .int .i64 0]) ∧ Below w.heap.size w w' := by
  have := text_any l (by omega) w
  unfold Lm.textL at this
  rw [if_neg h] at this
  exact this
theorem text_big (l : List UInt8) (hl : l.length ≤ 9223372036854775807) (h : 65535 < l.length) (w : World) :
    Calls Tryd.prog 29 #[.string ⟨l.toArray⟩] w fun e w' => e = .returned (.tuple #[.string ⟨#[]⟩, .int .i64 4]) ∧ Below w.heap.size w w' := by
  have := text_any l hl w
  unfold Lm.textL at this
  rw [if_pos h] at this
  exact this
end Go.Proofs.YtgickejfcmnaiaaDoor
namespace Go.Proofs.YtgickejfcmnaiaaDoor
set_option maxRecDepth 100000
open Go.RowKit
attribute [local go_sem] ba_size ba_get ba_extract ba_append wrap_byte wrap_u64_byte take_drop_end
set_option maxHeartbeats 400000 in
theorem size_any (n : Nat) (hn : n ≤ 65535) (w : World) :
    Calls Tryd.prog 39 #[.int .i64 n] w fun e w' => e = .returned (.string ⟨(Lm.lenL n).toArray⟩) ∧ Below w.heap.size w w' := by
  have c1 := conv1
  have c3 := conv3
  by_cases h : n ≤ 250
  · go_enter Tryd.func39, Tryd.ntmps39
    go_wp2
    go_ret
    exact ⟨ret_str (nums_short n h), (Below.refl _ _).alloc (Nat.le_refl _) _⟩
  · go_enter Tryd.func39, Tryd.ntmps39
    go_wp2
    go_ret
    exact ⟨ret_str (nums_long n h), (Below.refl _ _).alloc (Nat.le_refl _) _⟩
end Go.Proofs.YtgickejfcmnaiaaDoor
namespace Go.Proofs.YtgickejfcmnaiaaDoor
set_option maxRecDepth 100000
open Go.RowKit
attribute [local go_sem] ba_size ba_get ba_extract ba_append wrap_byte wrap_u64_byte take_drop_end
set_option maxHeartbeats 400000 in
theorem refText_any (l : List UInt8) (hl : l.length ≤ 9223372036854775807) (w : World) :
    Calls Tryd.prog 30 #[.string ⟨l.toArray⟩] w fun e w' => e = .returned (.tuple #[.string ⟨(Lm.textL l).1.toArray⟩, .int .i64 ((Lm.textL l).2 : Int)]) ∧ Below w.heap.size w w' := by
  unfold Lm.textL
  by_cases h : 65535 < l.length
  · rw [if_pos h]
    go_enter Tryd.func30, Tryd.ntmps30
    go_wp2
    go_ret2
    exact ⟨rfl, Below.refl _ _⟩
  · rw [if_neg h]
    go_enter Tryd.func30, Tryd.ntmps30
    go_wp2_with fail
    refine (size_any l.length (by omega) _).mono ?_
    rintro e w1 ⟨rfl, hb1⟩
    have hll := Lm.lenL_le l.length
    go_wp2_with fail
    go_ret2
    exact ⟨rfl, hb1⟩
theorem refText_ok (l : List UInt8) (h : ¬ 65535 < l.length) (w : World) :
    Calls Tryd.prog 30 #[.string ⟨l.toArray⟩] w fun e w' => e = .returned (.tuple #[.string ⟨(Lm.lenL l.length ++ l).toArray⟩, .int .i64 0]) ∧ Below w.heap.size w w' := by
  have := refText_any l (by omega) w
  unfold Lm.textL at this
  rw [if_neg h] at this
  exact this
theorem refText_big (l : List UInt8) (hl : l.length ≤ 9223372036854775807) (h : 65535 < l.length) (w : World) :
    Calls Tryd.prog 30 #[.string ⟨l.toArray⟩] w fun e w' => e = .returned (.tuple #[.string ⟨#[]⟩, .int .i64 4]) ∧ Below w.heap.size w w' := by
  have := refText_any l hl w
  unfold Lm.textL at this
  rw [if_pos h] at this
  exact this
end Go.Proofs.YtgickejfcmnaiaaDoor
