/-
  A row of bytes made just now, as a string.
  What lump.length answers.
  What lump.Text answers, at whatever text.
  What lump.takeLength answers, at whatever bytes.
  What lump.TakeText answers, at whatever bytes.
-/
import Derived.Test.YtngllioidfffdaaProg
import Derived.Test.YtngllioidfffdaaGA
import Derived.Test.YtngllioidfffdaaGB
import Derived.BigQuiet
import Derived.Deep.QuietTactic
namespace Go.Proofs.Ytngllioidfffdaa
set_option maxRecDepth 100000
open Go.RowKit
/-- A row of bytes that was made just now, as a string. -/
theorem conv_row (W : World) (C : Array Value) (t : TypeId) (off n cap : Nat) (xs : List Int) (hn : xs.length = n) (hc : ∀ i, i < n → C[off + i]? = some (.int .u8 (xs.getD i 0))) :
    (convert 84 9 (.slice (some ⟨W.heap.size, off, none⟩) n cap)).run Try.prog (W.alloc (.cells C t)) = .ok (.string (strOfNums xs)) (W.alloc (.cells C t)) :=
  run_convert_bytes_arg (P := Try.prog) (W.alloc (.cells C t)) 84 5 (by kernel_rfl) (by kernel_rfl) W.heap.size off n cap xs hn (fun i hi => by rw [World.cell?_alloc_new]; exact hc i hi) 9 (by kernel_rfl)
theorem conv1 (W : World) (x : Int) (t : TypeId) :
    (convert 84 9 (.slice (some ⟨W.heap.size, 0, none⟩) 1 1)).run Try.prog (W.alloc (.cells #[.int .u8 x] t)) = .ok (.string ⟨[UInt8.ofNat x.toNat].toArray⟩) (W.alloc (.cells #[.int .u8 x] t)) :=
  conv_row W _ t 0 1 1 [x] rfl (fun i hi => by obtain rfl : i = 0 := by omega
                                               rfl)
theorem conv3 (W : World) (x y z : Int) (t : TypeId) :
    (convert 84 9 (.slice (some ⟨W.heap.size, 0, none⟩) 3 3)).run Try.prog (W.alloc (.cells #[.int .u8 x, .int .u8 y, .int .u8 z] t)) = .ok (.string ⟨[UInt8.ofNat x.toNat, UInt8.ofNat y.toNat, UInt8.ofNat z.toNat].toArray⟩) (W.alloc (.cells #[.int .u8 x, .int .u8 y, .int .u8 z] t)) :=
  conv_row W _ t 0 3 3 [x, y, z] rfl (fun i hi => by
    have : i = 0 ∨ i = 1 ∨ i = 2 := by omega
    rcases this with rfl | rfl | rfl <;> rfl)
theorem conv3_1 (W : World) (x y z : Int) (t : TypeId) :
    (convert 84 9 (.slice (some ⟨W.heap.size, 2, none⟩) 1 1)).run Try.prog (W.alloc (.cells #[.int .u8 x, .int .u8 y, .int .u8 z] t)) = .ok (.string ⟨[UInt8.ofNat z.toNat].toArray⟩) (W.alloc (.cells #[.int .u8 x, .int .u8 y, .int .u8 z] t)) :=
  conv_row W _ t 2 1 1 [z] rfl (fun i hi => by obtain rfl : i = 0 := by omega
                                               rfl)
theorem nums_short (n : Nat) (h : n ≤ 250) : (⟨[UInt8.ofNat n].toArray⟩ : ByteArray) = ⟨(Lm.lenL n).toArray⟩ := by
  simp [Lm.lenL, h]
theorem nums_long (n : Nat) (h : ¬ n ≤ 250) : (⟨[251, UInt8.ofNat ((n : Int) / 256).toNat, UInt8.ofNat ((n : Int) % 256).toNat].toArray⟩ : ByteArray) = ⟨(Lm.lenL n).toArray⟩ := by
  have e1 : ((n : Int) / 256).toNat = n / 256 := by omega
  have e2 : ((n : Int) % 256).toNat = n % 256 := by omega
  simp only [Lm.lenL, h, if_false, e1, e2]
end Go.Proofs.Ytngllioidfffdaa
namespace Go.Proofs.Ytngllioidfffdaa
set_option maxRecDepth 100000
open Go.RowKit
attribute [local go_sem] ba_size ba_get ba_extract ba_append wrap_byte wrap_u64_byte take_drop_end
theorem slice75 (w : World) (b m : Nat) (hm : m < 3) :
    (Instr.sliceAt 117 (.pointer (some ⟨b, 0, none⟩)) (some (.int .i64 (m : Int))) none none).run Try.prog w = .ok (.slice (some ⟨b, m, none⟩) (3 - m) (3 - m)) w := by
  have hl : Try.prog.arrayLen 117 = 3 := by kernel_rfl
  have hz : ∀ w, (Go.sizeOf (Try.prog.elem 117)).run Try.prog w = .ok 1 w := fun w => by kernel_rfl
  rw [run_sliceAt_array_l w 117 ⟨b, 0, none⟩ (by kernel_rfl) .i64 m (by omega) (by rw [hl]; omega), hl, hz]
  simp only [Result.andThen, slicedAt, Int.toNat_natCast]
  rw [if_neg (by omega)]
  unfold Addr.add; split <;> simp_all
set_option maxHeartbeats 400000 in
theorem length_any (n : Nat) (hn : n ≤ 65535) (w : World) :
    Calls Try.prog 72 #[.int .i64 n] w fun e w' => e = .returned (.string ⟨(Lm.lenL n).toArray⟩) ∧ Below w.heap.size w w' := by
  have s0 := fun W b => slice75 W b 0 (by omega)
  have s2 := fun W b => slice75 W b 2 (by omega)
  have c1 := conv3_1
  have c3 := conv3
  simp only [Int.natCast_zero, Nat.sub_zero] at s0
  simp only [Nat.reduceSub] at s2
  by_cases h : n ≤ 250
  · go_enter Try.func72, Try.ntmps72
    go_wp2
    go_ret
    exact ⟨ret_str (nums_short n h), (Below.refl _ _).alloc (Nat.le_refl _) _⟩
  · go_enter Try.func72, Try.ntmps72
    go_wp2
    go_ret
    exact ⟨ret_str (nums_long n h), (Below.refl _ _).alloc (Nat.le_refl _) _⟩
end Go.Proofs.Ytngllioidfffdaa
namespace Go.Proofs.Ytngllioidfffdaa
set_option maxRecDepth 100000
open Go.RowKit
attribute [local go_sem] ba_size ba_get ba_extract ba_append wrap_byte wrap_u64_byte take_drop_end
set_option maxHeartbeats 400000 in
theorem text_any (l : List UInt8) (hl : l.length ≤ 9223372036854775807) (w : World) :
    Calls Try.prog 54 #[.string ⟨l.toArray⟩] w fun e w' => e = .returned (.tuple #[.string ⟨(Lm.textL l).1.toArray⟩, .int .i64 ((Lm.textL l).2 : Int)]) ∧ Below w.heap.size w w' := by
  unfold Lm.textL
  by_cases h : 65535 < l.length
  · rw [if_pos h]
    go_enter Try.func54, Try.ntmps54
    go_wp2
    go_ret2
    exact ⟨rfl, Below.refl _ _⟩
  · rw [if_neg h]
    go_enter Try.func54, Try.ntmps54
    go_wp2_with fail
    refine (length_any l.length (by omega) _).mono ?_
    rintro e w1 ⟨rfl, hb1⟩
    have hll := Lm.lenL_le l.length
    go_wp2_with fail
    go_ret2
    exact ⟨rfl, hb1⟩
theorem text_ok (l : List UInt8) (h : ¬ 65535 < l.length) (w : World) :
    Calls Try.prog 54 #[.string ⟨l.toArray⟩] w fun e w' => e = .returned (.tuple #[.string ⟨(Lm.lenL l.length ++ l).toArray⟩, .int .i64 0]) ∧ Below w.heap.size w w' := by
  have := text_any l (by omega) w
  unfold Lm.textL at this
  rw [if_neg h] at this
  exact this
theorem text_big (l : List UInt8) (hl : l.length ≤ 9223372036854775807) (h : 65535 < l.length) (w : World) :
    Calls Try.prog 54 #[.string ⟨l.toArray⟩] w fun e w' => e = .returned (.tuple #[.string ⟨#[]⟩, .int .i64 4]) ∧ Below w.heap.size w w' := by
  have := text_any l hl w
  unfold Lm.textL at this
  rw [if_pos h] at this
  exact this
end Go.Proofs.Ytngllioidfffdaa
namespace Go.Proofs.Ytngllioidfffdaa
set_option maxRecDepth 100000
open Go.RowKit
attribute [local go_sem] ba_size ba_get ba_extract ba_append wrap_byte wrap_u64_byte take_drop_end
set_option maxHeartbeats 800000 in
theorem takeLength_any (l : List UInt8) (most : Int) (w : World) (hs : l.length ≤ 9223372036854775807) :
    Calls Try.prog 85 #[.string ⟨l.toArray⟩, .int .i64 most] w fun e w' => e = .returned (.tuple #[.int .i64 ((Lm.takeLenL l most).1 : Int), .string ⟨(Lm.takeLenL l most).2.1.toArray⟩, .int .i64 ((Lm.takeLenL l most).2.2 : Int)]) ∧ Below w.heap.size w w' := by
  match l, hs with
  | [], _ =>
    go_enter Try.func85, Try.ntmps85
    go_wp2
    go_ret3
    exact ⟨rfl, Below.refl _ _⟩
  | b :: r, hs =>
    simp only [List.length_cons] at hs
    by_cases h1 : b.toNat ≤ 250
    · have hne : ((b.toNat : Int) == 251) = false := by simp; omega
      by_cases h0 : most < (b.toNat : Int)
      · have e : Lm.takeLenL (b :: r) most = (0, [], 4) := by simp [Lm.takeLenL, Lm.sizeL, h1, h0]
        rw [e]; clear e
        go_enter Try.func85, Try.ntmps85
        go_wp2
        go_quiet (fail)
        go_wp2
        go_ret3
        exact ⟨rfl, below_drewN (Below.refl _ _) _⟩
      · have e : Lm.takeLenL (b :: r) most = (b.toNat, r, 0) := by simp [Lm.takeLenL, Lm.sizeL, h1, h0]
        rw [e]; clear e
        go_enter Try.func85, Try.ntmps85
        go_wp2
        go_quiet (fail)
        go_wp2
        go_ret3
        exact ⟨rfl, below_drewN (Below.refl _ _) _⟩
    by_cases h2 : 251 < b.toNat
    · have e : Lm.takeLenL (b :: r) most = (0, [], 3) := by simp [Lm.takeLenL, Lm.sizeL, h1, h2]
      rw [e]; clear e
      go_enter Try.func85, Try.ntmps85
      go_wp2
      go_quiet (fail)
      go_wp2
      go_ret3
      exact ⟨rfl, below_drewN (Below.refl _ _) _⟩
    obtain rfl : b = 251 := by apply UInt8.toNat_inj.1; show b.toNat = 251; omega
    clear h1 h2
    match r, hs with
    | [], hs =>
      go_enter Try.func85, Try.ntmps85
      go_wp2
      go_quiet (fail)
      go_wp2
      go_ret3
      exact ⟨rfl, below_drewN (Below.refl _ _) _⟩
    | [a], hs =>
      go_enter Try.func85, Try.ntmps85
      go_wp2
      go_quiet (fail)
      go_wp2
      go_ret3
      exact ⟨rfl, below_drewN (Below.refl _ _) _⟩
    | a :: c :: r, hs =>
      simp only [List.length_cons] at hs
      have ha := a.toNat_lt
      have hc := c.toNat_lt
      have hor := or_byte_i64 a c
      by_cases h3 : 256 * a.toNat + c.toNat ≤ 250
      · have e : Lm.takeLenL (251 :: a :: c :: r) most = (0, [], 3) := by simp [Lm.takeLenL, Lm.sizeL, h3]
        rw [e]; clear e
        go_enter Try.func85, Try.ntmps85
        go_wp2
        go_quiet (fail)
        go_wp2
        go_quiet (fail)
        go_wp2
        go_ret3
        exact ⟨rfl, below_drewN (Below.refl _ _) _⟩
      by_cases h0 : most < ((256 * a.toNat + c.toNat : Nat) : Int)
      · have e : Lm.takeLenL (251 :: a :: c :: r) most = (0, [], 4) := by
          simp only [Lm.takeLenL, Lm.sizeL, h3]; simp; omega
        rw [e]; clear e
        go_enter Try.func85, Try.ntmps85
        go_wp2
        go_quiet (fail)
        go_wp2
        go_quiet (fail)
        go_wp2
        go_ret3
        exact ⟨rfl, below_drewN (Below.refl _ _) _⟩
      · have e : Lm.takeLenL (251 :: a :: c :: r) most = (256 * a.toNat + c.toNat, r, 0) := by
          simp only [Lm.takeLenL, Lm.sizeL, h3]; simp; omega
        rw [e]; clear e
        go_enter Try.func85, Try.ntmps85
        go_wp2
        go_quiet (fail)
        go_wp2
        go_quiet (fail)
        go_wp2
        go_ret3
        exact ⟨rfl, below_drewN (Below.refl _ _) _⟩
end Go.Proofs.Ytngllioidfffdaa
namespace Go.Proofs.Ytngllioidfffdaa
set_option maxRecDepth 100000
open Go.RowKit
attribute [local go_sem] ba_size ba_get ba_extract ba_append wrap_byte wrap_u64_byte take_drop_end
set_option maxHeartbeats 800000 in
theorem takeText_any (l : List UInt8) (most : Int) (w : World) (hs : l.length ≤ 9223372036854775807) :
    Calls Try.prog 81 #[.string ⟨l.toArray⟩, .int .i64 most] w fun e w' => e = .returned (.tuple #[.string ⟨(Lm.takeTextL l most).1.toArray⟩, .string ⟨(Lm.takeTextL l most).2.1.toArray⟩, .int .i64 ((Lm.takeTextL l most).2.2 : Int)]) ∧ Below w.heap.size w w' := by
  have hbd := takeLenL_bd l most
  have hc := takeLength_any l most w hs
  unfold Lm.takeTextL
  generalize Lm.takeLenL l most = x at *
  obtain ⟨n, rest, e⟩ := x
  have HC : Hid (Calls Try.prog 85 #[.string ⟨l.toArray⟩, .int .i64 most] w fun e' w' => e' = .returned (.tuple #[.int .i64 (n : Int), .string ⟨rest.toArray⟩, .int .i64 (e : Int)]) ∧ Below w.heap.size w w') := hc
  simp only at hbd
  clear hc
  by_cases he : e ≠ 0
  · rw [if_pos he]
    have hb : ((e : Int) != 0) = true := by simp; omega
    go_enter Try.func81, Try.ntmps81
    go_wp2_with fail
    refine HC.out.mono ?_
    rintro e w1 ⟨rfl, hb1⟩
    go_wp2_with fail
    go_ret3
    exact ⟨rfl, hb1⟩
  · have he' : e = 0 := by omega
    subst he'
    clear he
    rw [if_neg (by simp)]
    by_cases hl : rest.length < n
    · rw [if_pos hl]
      go_enter Try.func81, Try.ntmps81
      go_wp2_with fail
      refine HC.out.mono ?_
      rintro e w1 ⟨rfl, hb1⟩
      go_wp2_with fail
      go_ret3
      exact ⟨rfl, hb1⟩
    · rw [if_neg hl]
      go_enter Try.func81, Try.ntmps81
      go_wp2_with fail
      refine HC.out.mono ?_
      rintro e w1 ⟨rfl, hb1⟩
      go_wp2_with fail
      go_quiet (fail)
      go_wp2
      go_ret3
      exact ⟨rfl, below_drewN hb1 _⟩
theorem takeText_ok (t more : List UInt8) (h : ¬ 65535 < t.length) (hs : more.length ≤ 9223372036854000000) (w : World) :
    Calls Try.prog 81 #[.string ⟨(Lm.lenL t.length ++ (t ++ more)).toArray⟩, .int .i64 65535] w fun e w' => e = .returned (.tuple #[.string ⟨t.toArray⟩, .string ⟨more.toArray⟩, .int .i64 0]) ∧ Below w.heap.size w w' := by
  have hl := Lm.lenL_le t.length
  have := takeText_any (Lm.lenL t.length ++ (t ++ more)) 65535 w (by simp; omega)
  rw [← List.append_assoc, Lm.takeText_text t (by omega) 65535 (by omega) more] at this
  rw [← List.append_assoc]
  exact this
theorem takeText_end (t : List UInt8) (h : ¬ 65535 < t.length) (w : World) :
    Calls Try.prog 81 #[.string ⟨(Lm.lenL t.length ++ t).toArray⟩, .int .i64 65535] w fun e w' => e = .returned (.tuple #[.string ⟨t.toArray⟩, .string ⟨#[]⟩, .int .i64 0]) ∧ Below w.heap.size w w' := by
  have := takeText_ok t [] h (by simp) w
  rw [List.append_nil] at this
  exact this
end Go.Proofs.Ytngllioidfffdaa
