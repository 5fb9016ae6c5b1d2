/-
  A row of bytes made just now, as a string.
  What lump.length answers.
  What lump.Text answers, at whatever text.
  What lump.Num answers, at whatever number.
  What lump.takeLength answers, at whatever bytes.
  What lump.TakeText answers, at whatever bytes.
  What lump.TakeNum answers, at whatever bytes.
-/
import Derived.Test.YtjhklkckiogobaaDoorProg
import Derived.Test.YtjhklkckiogobaaDoorGA
import Derived.Test.YtjhklkckiogobaaDoorZBase
import Derived.BigQuiet
import Derived.Deep.QuietTactic
namespace Go.Proofs.YtjhklkckiogobaaDoor
set_option maxRecDepth 100000
open Go.RowKit
/-- A row of bytes that was made just now, as a string. -/
theorem conv_row (W : World) (C : Array Value) (t : TypeId) (off n cap : Nat) (xs : List Int) (hn : xs.length = n) (hc : ∀ i, i < n → C[off + i]? = some (.int .u8 (xs.getD i 0))) :
    (convert 43 9 (.slice (some ⟨W.heap.size, off, none⟩) n cap)).run Tryd.prog (W.alloc (.cells C t)) = .ok (.string (strOfNums xs)) (W.alloc (.cells C t)) :=
  run_convert_bytes_arg (P := Tryd.prog) (W.alloc (.cells C t)) 43 5 (by kernel_rfl) (by kernel_rfl) W.heap.size off n cap xs hn (fun i hi => by rw [World.cell?_alloc_new]; exact hc i hi) 9 (by kernel_rfl)
theorem conv1 (W : World) (x : Int) (t : TypeId) :
    (convert 43 9 (.slice (some ⟨W.heap.size, 0, none⟩) 1 1)).run Tryd.prog (W.alloc (.cells #[.int .u8 x] t)) = .ok (.string ⟨[UInt8.ofNat x.toNat].toArray⟩) (W.alloc (.cells #[.int .u8 x] t)) :=
  conv_row W _ t 0 1 1 [x] rfl (fun i hi => by obtain rfl : i = 0 := by omega
                                               rfl)
theorem conv3 (W : World) (x y z : Int) (t : TypeId) :
    (convert 43 9 (.slice (some ⟨W.heap.size, 0, none⟩) 3 3)).run Tryd.prog (W.alloc (.cells #[.int .u8 x, .int .u8 y, .int .u8 z] t)) = .ok (.string ⟨[UInt8.ofNat x.toNat, UInt8.ofNat y.toNat, UInt8.ofNat z.toNat].toArray⟩) (W.alloc (.cells #[.int .u8 x, .int .u8 y, .int .u8 z] t)) :=
  conv_row W _ t 0 3 3 [x, y, z] rfl (fun i hi => by
    have : i = 0 ∨ i = 1 ∨ i = 2 := by omega
    rcases this with rfl | rfl | rfl <;> rfl)
theorem conv3_1 (W : World) (x y z : Int) (t : TypeId) :
    (convert 43 9 (.slice (some ⟨W.heap.size, 2, none⟩) 1 1)).run Tryd.prog (W.alloc (.cells #[.int .u8 x, .int .u8 y, .int .u8 z] t)) = .ok (.string ⟨[UInt8.ofNat z.toNat].toArray⟩) (W.alloc (.cells #[.int .u8 x, .int .u8 y, .int .u8 z] t)) :=
  conv_row W _ t 2 1 1 [z] rfl (fun i hi => by obtain rfl : i = 0 := by omega
                                               rfl)
theorem nums_short (n : Nat) (h : n ≤ 250) : (⟨[UInt8.ofNat n].toArray⟩ : ByteArray) = ⟨(Lm.lenL n).toArray⟩ := by
  simp [Lm.lenL, h]
theorem nums_long (n : Nat) (h : ¬ n ≤ 250) : (⟨[251, UInt8.ofNat ((n : Int) / 256).toNat, UInt8.ofNat ((n : Int) % 256).toNat].toArray⟩ : ByteArray) = ⟨(Lm.lenL n).toArray⟩ := by
  have e1 : ((n : Int) / 256).toNat = n / 256 := by omega
  have e2 : ((n : Int) % 256).toNat = n % 256 := by omega
  simp only [Lm.lenL, h, if_false, e1, e2]
end Go.Proofs.YtjhklkckiogobaaDoor
namespace Go.Proofs.YtjhklkckiogobaaDoor
set_option maxRecDepth 100000
open Go.RowKit
attribute [local go_sem] ba_size ba_get ba_extract ba_append wrap_byte wrap_u64_byte take_drop_end
theorem slice75 (w : World) (b m : Nat) (hm : m < 3) :
    (Instr.sliceAt 81 (.pointer (some ⟨b, 0, none⟩)) (some (.int .i64 (m : Int))) none none).run Tryd.prog w = .ok (.slice (some ⟨b, m, none⟩) (3 - m) (3 - m)) w := by
  have hl : Tryd.prog.arrayLen 81 = 3 := by kernel_rfl
  have hz : ∀ w, (Go.sizeOf (Tryd.prog.elem 81)).run Tryd.prog w = .ok 1 w := fun w => by kernel_rfl
  rw [run_sliceAt_array_l w 81 ⟨b, 0, none⟩ (by kernel_rfl) .i64 m (by omega) (by rw [hl]; omega), hl, hz]
  simp only [Result.andThen, slicedAt, Int.toNat_natCast]
  rw [if_neg (by omega)]
  unfold Addr.add; split <;> simp_all
set_option maxHeartbeats 400000 in
theorem length_any (n : Nat) (hn : n ≤ 65535) (w : World) :
    Calls Tryd.prog 37 #[.int .i64 n] w fun e w' => e = .returned (.string ⟨(Lm.lenL n).toArray⟩) ∧ Below w.heap.size w w' := by
  have s0 := fun W b => slice75 W b 0 (by omega)
  have s2 := fun W b => slice75 W b 2 (by omega)
  have c1 := conv3_1
  have c3 := conv3
  simp only [Int.natCast_zero, Nat.sub_zero] at s0
  simp only [Nat.reduceSub] at s2
  by_cases h : n ≤ 250
  · go_enter Tryd.func37, Tryd.ntmps37
    go_wp2
    go_ret
    exact ⟨ret_str (nums_short n h), (Below.refl _ _).alloc (Nat.le_refl _) _⟩
  · go_enter Tryd.func37, Tryd.ntmps37
    go_wp2
    go_ret
    exact ⟨ret_str (nums_long n h), (Below.refl _ _).alloc (Nat.le_refl _) _⟩
end Go.Proofs.YtjhklkckiogobaaDoor
namespace Go.Proofs.YtjhklkckiogobaaDoor
set_option maxRecDepth 100000
open Go.RowKit
attribute [local go_sem] ba_size ba_get ba_extract ba_append wrap_byte wrap_u64_byte take_drop_end
set_option maxHeartbeats 400000 in
theorem text_any (l : List UInt8) (hl : l.length ≤ 9223372036854775807) (w : World) :
    Calls Tryd.prog 27 #[.string ⟨l.toArray⟩] w fun e w' => e = .returned (.tuple #[.string ⟨(Lm.textL l).1.toArray⟩, .int .i64 ((Lm.textL l).2 : Int)]) ∧ Below w.heap.size w w' := by
  unfold Lm.textL
  by_cases h : 65535 < l.length
  · rw [if_pos h]
    go_enter Tryd.func27, Tryd.ntmps27
    go_wp2
    go_ret2
    exact ⟨rfl, Below.refl _ _⟩
  · rw [if_neg h]
    go_enter Tryd.func27, Tryd.ntmps27
    go_wp2_with fail
    refine (length_any l.length (by omega) _).mono ?_
    rintro e w1 ⟨rfl, hb1⟩
    have hll := Lm.lenL_le l.length
    go_wp2_with fail
    go_ret2
    exact ⟨rfl, hb1⟩
theorem text_ok (l : List UInt8) (h : ¬ 65535 < l.length) (w : World) :
    Calls Tryd.prog 27 #[.string ⟨l.toArray⟩] w fun e w' => e = .returned (.tuple #[.string ⟨(Lm.lenL l.length ++ l).toArray⟩, .int .i64 0]) ∧ Below w.heap.size w w' := by
  have := text_any l (by omega) w
  unfold Lm.textL at this
  rw [if_neg h] at this
  exact this
theorem text_big (l : List UInt8) (hl : l.length ≤ 9223372036854775807) (h : 65535 < l.length) (w : World) :
    Calls Tryd.prog 27 #[.string ⟨l.toArray⟩] w fun e w' => e = .returned (.tuple #[.string ⟨#[]⟩, .int .i64 4]) ∧ Below w.heap.size w w' := by
  have := text_any l hl w
  unfold Lm.textL at this
  rw [if_pos h] at this
  exact this
end Go.Proofs.YtjhklkckiogobaaDoor
namespace Go.Proofs.YtjhklkckiogobaaDoor
set_option maxRecDepth 100000
open Go.RowKit
/-- The array b of Num behind k rounds. -/
def nine (v k : Nat) : List Int := List.replicate (9 - k) 0 ++ (Lm.low k v).map (fun b => (b.toNat : Int))
def nineA (v k : Nat) : Array Value := ((nine v k).map (Value.int .u8)).toArray
theorem nine_length (v k : Nat) (h : k ≤ 9) : (nine v k).length = 9 := by simp [nine, Lm.low_length]; omega
theorem nine_at (v k j : Nat) (h : j < 9 - k) : (nineA v k)[j]? = some (.int .u8 0) := by
  simp [nineA, nine, List.getElem?_append, h]
theorem nine_set (v k : Nat) (h : k < 9) (x : Int) : (nine v k).set (8 - k) x = List.replicate (8 - k) 0 ++ x :: (Lm.low k v).map (fun b => (b.toNat : Int)) := by
  unfold nine
  rw [show 9 - k = 8 - k + 1 from by omega, List.replicate_succ', List.append_assoc, List.set_append_right _ _ (by simp)]
  simp
theorem nineA_set (v k m : Nat) (h : m + k = 8) (x : Int) : (nineA v k).setIfInBounds m (.int .u8 x) = ((List.replicate m (0 : Int) ++ x :: (Lm.low k v).map (fun b : UInt8 => (b.toNat : Int))).map (Value.int .u8)).toArray := by
  obtain rfl : m = 8 - k := by omega
  rw [← nine_set v k (by omega) x]
  simp [nineA]
theorem nineA_next (v k m : Nat) (h : m + 1 + k = 8) : (nineA v k).setIfInBounds (m + 1) (.int .u8 (((v / 256 ^ k : Nat) : Int) % 256)) = nineA v (k + 1) := by
  rw [nineA_set v k (m + 1) h]
  unfold nineA nine
  rw [show 9 - (k + 1) = m + 1 from by omega, Lm.low]
  congr 3
theorem row_cells (w : World) (m : Nat) (xs : List Int) (t : TypeId) (i : Nat) (hi : i < xs.length) :
    (w.alloc (.cells ((List.replicate m (0 : Int) ++ xs).map (Value.int .u8)).toArray t)).cell? ⟨w.heap.size, m + i, none⟩ = some (.int .u8 (xs.getD i 0)) := by
  rw [World.cell?_alloc_new]
  simp [hi]
theorem slice60 (w : World) (b m : Nat) (hm : m < 9) :
    (Instr.sliceAt 75 (.pointer (some ⟨b, 0, none⟩)) (some (.int .i64 (m : Int))) none none).run Tryd.prog w = .ok (.slice (some ⟨b, m, none⟩) (9 - m) (9 - m)) w := by
  have hl : Tryd.prog.arrayLen 75 = 9 := by kernel_rfl
  have hz : ∀ w, (Go.sizeOf (Tryd.prog.elem 75)).run Tryd.prog w = .ok 1 w := fun w => by kernel_rfl
  rw [run_sliceAt_array_l w 75 ⟨b, 0, none⟩ (by kernel_rfl) .i64 m (by omega) (by rw [hl]; omega), hl, hz]
  simp only [Result.andThen, slicedAt, Int.toNat_natCast]
  rw [if_neg (by omega)]
  unfold Addr.add; split <;> simp_all
set_option maxHeartbeats 400000 in
theorem num_any (v : Nat) (hv : v < 18446744073709551616) (w : World) :
    Calls Tryd.prog 28 #[.int .u64 v] w fun e w' => e = .returned (.string ⟨(Lm.numL v).toArray⟩) ∧ Below w.heap.size w w' := by
  go_enter Tryd.func28, Tryd.ntmps28
  go_wp2
  go_loopw [0, 4] (fun a i wr => ∃ m k : Nat, m + k = 8 ∧ a = .int .u64 ((v / 256 ^ k : Nat) : Int) ∧ i = .int .i64 ((m : Int) + 1) ∧ (k = 0 ∨ 0 < v / 256 ^ (k - 1)) ∧ wr = w.alloc (.cells (nineA v k) 75))
    (fun _ i _ => (intOf i).toNat)
  case atStart => exact ⟨8, 0, rfl, by simp, rfl, .inl rfl, rfl⟩
  case round =>
    obtain ⟨m, k, hmk, rfl, rfl, hk, rfl⟩ := hrel
    by_cases hlt : 0 < v / 256 ^ k
    · have hk8 := Lm.loop_le v k (by omega) hlt
      obtain ⟨m, rfl⟩ : ∃ m', m = m' + 1 := ⟨m - 1, by omega⟩
      have hc := nine_at v k (m + 1) (by omega)
      have hx : ((v / 256 ^ k : Nat) : Int) < 18446744073709551616 := by have := Nat.div_le_self v (256 ^ k); omega
      have hN := nineA_next v k m hmk
      have hD : v / 256 ^ (k + 1) = v / 256 ^ k / 256 := by rw [Nat.pow_succ, Nat.div_div_eq_div_mul]
      generalize hxx : v / 256 ^ k = x at *
      have HN : Hid _ := hN; clear hN
      have HD : Hid _ := hD; clear hD
      have HX : Hid _ := hxx; clear hxx
      go_wp2
      go_roundw
      case rel => exact ⟨m, k + 1, by omega, by rw [HD.out]; simp, rfl, .inr (by simpa [HX.out] using hlt), by rw [HN.out]⟩
      case measure => simp [intOf]; omega
    · have hz : v / 256 ^ k = 0 := Nat.eq_zero_of_not_pos hlt
      obtain rfl := Lm.cnt_of_loop v k (by omega) hk hz
      have hc := nine_at v (Lm.cnt v) m (by omega)
      have hs := nineA_set v (Lm.cnt v) m hmk (Lm.cnt v)
      have hkm : (Lm.cnt v : Int) = 8 - m := by omega
      rw [hz]
      have hfin : strOfNums ((Lm.cnt v : Int) :: (Lm.low (Lm.cnt v) v).map (fun b : UInt8 => (b.toNat : Int))) = ⟨(Lm.numL v).toArray⟩ := by
        simp [strOfNums, Lm.numL, Function.comp_def]
      have HF : Hid _ := hfin; clear hfin
      generalize Lm.cnt v = k at *
      have HS : Hid _ := hs; clear hs
      have HK : Hid _ := hkm; clear hkm
      have HZ : Hid _ := hz; clear hz
      have hm8 : m ≤ 8 := by omega
      have HM : Hid _ := hmk; clear hmk
      clear hlt hk
      have hsl := fun w' => slice60 w' w.heap.size m (by omega)
      have hcv := run_convert_bytes_arg (P := Tryd.prog) (w.alloc (Obj.cells ((nineA v k).setIfInBounds m (Value.int IntKind.u8 (9 - (↑m + 1)))) 75)) 43 5 (by kernel_rfl) (by kernel_rfl) w.heap.size m (9 - m) (9 - m) ((k : Int) :: (Lm.low k v).map (fun b : UInt8 => (b.toNat : Int))) (by have := HM.out; simp [Lm.low_length]; omega)
        (by
          intro i hi
          have e : (9 - ((m : Int) + 1)) = k := by have := HM.out; omega
          rw [e, HS.out]
          exact row_cells w m _ 75 i (by have := HM.out; simp [Lm.low_length]; omega)) 9 (by kernel_rfl)
      go_wp2
      go_ret
      exact ⟨ret_str HF.out, (Below.refl _ _).alloc (Nat.le_refl _) _⟩
theorem num_len (v : Nat) : (Lm.numL v).length ≤ 9 := by rw [Lm.numL_length]; have := Lm.cnt_le v; omega
end Go.Proofs.YtjhklkckiogobaaDoor
namespace Go.Proofs.YtjhklkckiogobaaDoor
set_option maxRecDepth 100000
open Go.RowKit
attribute [local go_sem] ba_size ba_get ba_extract ba_append wrap_byte wrap_u64_byte take_drop_end
set_option maxHeartbeats 800000 in
theorem takeLength_any (l : List UInt8) (most : Int) (w : World) (hs : l.length ≤ 9223372036854775807) :
    Calls Tryd.prog 35 #[.string ⟨l.toArray⟩, .int .i64 most] w fun e w' => e = .returned (.tuple #[.int .i64 ((Lm.takeLenL l most).1 : Int), .string ⟨(Lm.takeLenL l most).2.1.toArray⟩, .int .i64 ((Lm.takeLenL l most).2.2 : Int)]) ∧ Below w.heap.size w w' := by
  match l, hs with
  | [], _ =>
    go_enter Tryd.func35, Tryd.ntmps35
    go_wp2
    go_ret3
    exact ⟨rfl, Below.refl _ _⟩
  | b :: r, hs =>
    simp only [List.length_cons] at hs
    by_cases h1 : b.toNat ≤ 250
    · have hne : ((b.toNat : Int) == 251) = false := by simp; omega
      by_cases h0 : most < (b.toNat : Int)
      · have e : Lm.takeLenL (b :: r) most = (0, [], 4) := by simp [Lm.takeLenL, Lm.sizeL, h1, h0]
        rw [e]; clear e
        go_enter Tryd.func35, Tryd.ntmps35
        go_wp2
        go_quiet (fail)
        go_wp2
        go_ret3
        exact ⟨rfl, below_drewN (Below.refl _ _) _⟩
      · have e : Lm.takeLenL (b :: r) most = (b.toNat, r, 0) := by simp [Lm.takeLenL, Lm.sizeL, h1, h0]
        rw [e]; clear e
        go_enter Tryd.func35, Tryd.ntmps35
        go_wp2
        go_quiet (fail)
        go_wp2
        go_ret3
        exact ⟨rfl, below_drewN (Below.refl _ _) _⟩
    by_cases h2 : 251 < b.toNat
    · have e : Lm.takeLenL (b :: r) most = (0, [], 3) := by simp [Lm.takeLenL, Lm.sizeL, h1, h2]
      rw [e]; clear e
      go_enter Tryd.func35, Tryd.ntmps35
      go_wp2
      go_quiet (fail)
      go_wp2
      go_ret3
      exact ⟨rfl, below_drewN (Below.refl _ _) _⟩
    obtain rfl : b = 251 := by apply UInt8.toNat_inj.1; show b.toNat = 251; omega
    clear h1 h2
    match r, hs with
    | [], hs =>
      go_enter Tryd.func35, Tryd.ntmps35
      go_wp2
      go_quiet (fail)
      go_wp2
      go_ret3
      exact ⟨rfl, below_drewN (Below.refl _ _) _⟩
    | [a], hs =>
      go_enter Tryd.func35, Tryd.ntmps35
      go_wp2
      go_quiet (fail)
      go_wp2
      go_ret3
      exact ⟨rfl, below_drewN (Below.refl _ _) _⟩
    | a :: c :: r, hs =>
      simp only [List.length_cons] at hs
      have ha := a.toNat_lt
      have hc := c.toNat_lt
      have hor := or_byte_i64 a c
      by_cases h3 : 256 * a.toNat + c.toNat ≤ 250
      · have e : Lm.takeLenL (251 :: a :: c :: r) most = (0, [], 3) := by simp [Lm.takeLenL, Lm.sizeL, h3]
        rw [e]; clear e
        go_enter Tryd.func35, Tryd.ntmps35
        go_wp2
        go_quiet (fail)
        go_wp2
        go_quiet (fail)
        go_wp2
        go_ret3
        exact ⟨rfl, below_drewN (Below.refl _ _) _⟩
      by_cases h0 : most < ((256 * a.toNat + c.toNat : Nat) : Int)
      · have e : Lm.takeLenL (251 :: a :: c :: r) most = (0, [], 4) := by
          simp only [Lm.takeLenL, Lm.sizeL, h3]; simp; omega
        rw [e]; clear e
        go_enter Tryd.func35, Tryd.ntmps35
        go_wp2
        go_quiet (fail)
        go_wp2
        go_quiet (fail)
        go_wp2
        go_ret3
        exact ⟨rfl, below_drewN (Below.refl _ _) _⟩
      · have e : Lm.takeLenL (251 :: a :: c :: r) most = (256 * a.toNat + c.toNat, r, 0) := by
          simp only [Lm.takeLenL, Lm.sizeL, h3]; simp; omega
        rw [e]; clear e
        go_enter Tryd.func35, Tryd.ntmps35
        go_wp2
        go_quiet (fail)
        go_wp2
        go_quiet (fail)
        go_wp2
        go_ret3
        exact ⟨rfl, below_drewN (Below.refl _ _) _⟩
end Go.Proofs.YtjhklkckiogobaaDoor
namespace Go.Proofs.YtjhklkckiogobaaDoor
set_option maxRecDepth 100000
open Go.RowKit
attribute [local go_sem] ba_size ba_get ba_extract ba_append wrap_byte wrap_u64_byte take_drop_end
set_option maxHeartbeats 800000 in
theorem takeText_any (l : List UInt8) (most : Int) (w : World) (hs : l.length ≤ 9223372036854775807) :
    Calls Tryd.prog 23 #[.string ⟨l.toArray⟩, .int .i64 most] w fun e w' => e = .returned (.tuple #[.string ⟨(Lm.takeTextL l most).1.toArray⟩, .string ⟨(Lm.takeTextL l most).2.1.toArray⟩, .int .i64 ((Lm.takeTextL l most).2.2 : Int)]) ∧ Below w.heap.size w w' := by
  have hbd := takeLenL_bd l most
  have hc := takeLength_any l most w hs
  unfold Lm.takeTextL
  generalize Lm.takeLenL l most = x at *
  obtain ⟨n, rest, e⟩ := x
  have HC : Hid (Calls Tryd.prog 35 #[.string ⟨l.toArray⟩, .int .i64 most] w fun e' w' => e' = .returned (.tuple #[.int .i64 (n : Int), .string ⟨rest.toArray⟩, .int .i64 (e : Int)]) ∧ Below w.heap.size w w') := hc
  simp only at hbd
  clear hc
  by_cases he : e ≠ 0
  · rw [if_pos he]
    have hb : ((e : Int) != 0) = true := by simp; omega
    go_enter Tryd.func23, Tryd.ntmps23
    go_wp2_with fail
    refine HC.out.mono ?_
    rintro e w1 ⟨rfl, hb1⟩
    go_wp2_with fail
    go_ret3
    exact ⟨rfl, hb1⟩
  · have he' : e = 0 := by omega
    subst he'
    clear he
    rw [if_neg (by simp)]
    by_cases hl : rest.length < n
    · rw [if_pos hl]
      go_enter Tryd.func23, Tryd.ntmps23
      go_wp2_with fail
      refine HC.out.mono ?_
      rintro e w1 ⟨rfl, hb1⟩
      go_wp2_with fail
      go_ret3
      exact ⟨rfl, hb1⟩
    · rw [if_neg hl]
      go_enter Tryd.func23, Tryd.ntmps23
      go_wp2_with fail
      refine HC.out.mono ?_
      rintro e w1 ⟨rfl, hb1⟩
      go_wp2_with fail
      go_quiet (fail)
      go_wp2
      go_ret3
      exact ⟨rfl, below_drewN hb1 _⟩
theorem takeText_ok (t more : List UInt8) (h : ¬ 65535 < t.length) (hs : more.length ≤ 9223372036854000000) (w : World) :
    Calls Tryd.prog 23 #[.string ⟨(Lm.lenL t.length ++ (t ++ more)).toArray⟩, .int .i64 65535] w fun e w' => e = .returned (.tuple #[.string ⟨t.toArray⟩, .string ⟨more.toArray⟩, .int .i64 0]) ∧ Below w.heap.size w w' := by
  have hl := Lm.lenL_le t.length
  have := takeText_any (Lm.lenL t.length ++ (t ++ more)) 65535 w (by simp; omega)
  rw [← List.append_assoc, Lm.takeText_text t (by omega) 65535 (by omega) more] at this
  rw [← List.append_assoc]
  exact this
theorem takeText_end (t : List UInt8) (h : ¬ 65535 < t.length) (w : World) :
    Calls Tryd.prog 23 #[.string ⟨(Lm.lenL t.length ++ t).toArray⟩, .int .i64 65535] w fun e w' => e = .returned (.tuple #[.string ⟨t.toArray⟩, .string ⟨#[]⟩, .int .i64 0]) ∧ Below w.heap.size w w' := by
  have := takeText_ok t [] h (by simp) w
  rw [List.append_nil] at this
  exact this
end Go.Proofs.YtjhklkckiogobaaDoor
namespace Go.Proofs.YtjhklkckiogobaaDoor
set_option maxRecDepth 100000
open Go.RowKit
attribute [local go_sem] ba_size ba_get ba_extract ba_append wrap_byte wrap_u64_byte take_drop_end
set_option maxHeartbeats 400000 in
theorem take_ok (b : UInt8) (r : List UInt8) (w : World) (hs : r.length + 1 ≤ 9223372036854775807) (h8 : b.toNat ≤ 8) (hl : b.toNat ≤ r.length) (hz : ¬ (0 < b.toNat ∧ r.head? = some 0)) :
    Calls Tryd.prog 24 #[.string ⟨(b :: r).toArray⟩] w fun e w' => e = .returned (.tuple #[.int .u64 (Lm.val (r.take b.toNat)), .string ⟨(r.drop b.toNat).toArray⟩, .int .i64 0]) ∧ Below w.heap.size w w' := by
  have HH : Hid (∀ k, k ≤ b.toNat → Lm.val (r.take k) < 256 ^ k) := fun k hk => by
    have := Lm.val_lt (r.take k); rwa [List.length_take_of_le (by omega)] at this
  have hgo : b.toNat = 0 ∨ ∃ hr0 : 0 < r.length, ((r[0].toNat : Int) == 0) = false := by
    by_cases h0 : 0 < b.toNat
    · have hr0 : 0 < r.length := by omega
      refine .inr ⟨hr0, ?_⟩
      cases r with
      | nil => simp at hr0
      | cons a r =>
        simp only [List.head?_cons, Option.some.injEq, h0, true_and] at hz
        simp only [List.getElem_cons_zero, beq_eq_false_iff_ne, ne_eq]
        intro h; apply hz; apply UInt8.toNat_inj.1; simpa using h
    · exact .inl (by omega)
  clear hz
  have hgo' : ¬ 0 < b.toNat ∨ (0 < b.toNat ∧ ∃ hr0 : 0 < r.length, ((r[0].toNat : Int) == 0) = false) := by
    rcases hgo with h | h
    · exact .inl (by omega)
    · by_cases h0 : 0 < b.toNat
      · exact .inr ⟨h0, h⟩
      · exact .inl h0
  clear hgo
  rcases hgo' with h0 | ⟨h0, hr0, hrz⟩
  all_goals
    go_enter Tryd.func24, Tryd.ntmps24
    go_wp2
    go_quiet (fail)
    go_wp2
    go_loop [7, 33] (fun a i => ∃ k : Nat, k ≤ b.toNat ∧ i = .int .i64 k ∧ a = .int .u64 (Lm.val (r.take k))) (fun _ i => b.toNat - (intOf i).toNat)
    case atStart => exact ⟨0, Nat.zero_le _, rfl, rfl⟩
    case round =>
      obtain ⟨k, hk, rfl, rfl⟩ := hrel
      by_cases hlt : k < b.toNat
      · have hkr : k < r.length := by omega
        have hb1 := HH.out k hk
        have hb2 : Lm.val (r.take k) < 72057594037927936 := by
          have : 256 ^ k ≤ 256 ^ 7 := Nat.pow_le_pow_right (by omega) (by omega)
          have e : (256 : Nat) ^ 7 = 72057594037927936 := by decide
          omega
        have hor : Lm.val (r.take (k + 1)) = 256 * Lm.val (r.take k) + r[k].toNat := by
          rw [List.take_succ_eq_append_getElem hkr, Lm.val_snoc]
        have HO : Hid _ := hor
        clear hb1 hor
        have hob := or_byte (Lm.val (r.take k)) r[k] hb2
        go_wp2
        go_round
        case rel => exact ⟨k + 1, by omega, by go_num, by rw [HO.out]; rfl⟩
        case measure => simp [intOf]; omega
      · obtain rfl : k = b.toNat := by omega
        go_wp2
        go_quiet (fail)
        go_wp2
        go_ret3
        exact ⟨rfl, below_drewN (below_drewN (Below.refl _ _) _) _⟩
set_option maxHeartbeats 400000 in
theorem takeNum_any (l : List UInt8) (w : World) (hs : l.length ≤ 9223372036854775807) :
    Calls Tryd.prog 24 #[.string ⟨l.toArray⟩] w fun e w' => e = .returned (.tuple #[.int .u64 ((Lm.takeNumL l).1 : Int), .string ⟨(Lm.takeNumL l).2.1.toArray⟩, .int .i64 ((Lm.takeNumL l).2.2 : Int)]) ∧ Below w.heap.size w w' := by
  match l, hs with
  | [], _ =>
    go_enter Tryd.func24, Tryd.ntmps24
    go_wp2
    go_ret3
    exact ⟨rfl, Below.refl _ _⟩
  | b :: r, hs =>
    simp only [List.length_cons] at hs
    rw [Lm.takeNumL]
    by_cases h8 : 8 < b.toNat
    · rw [if_pos h8]
      go_enter Tryd.func24, Tryd.ntmps24
      go_wp2
      go_quiet (fail)
      go_wp2
      go_ret3
      exact ⟨rfl, below_drewN (Below.refl _ _) _⟩
    rw [if_neg h8]
    by_cases hl : r.length < b.toNat
    · rw [if_pos hl]
      go_enter Tryd.func24, Tryd.ntmps24
      go_wp2
      go_quiet (fail)
      go_wp2
      go_ret3
      exact ⟨rfl, below_drewN (Below.refl _ _) _⟩
    rw [if_neg hl]
    by_cases hz : 0 < b.toNat ∧ r.head? = some 0
    · rw [if_pos hz]
      obtain ⟨h0, hz⟩ := hz
      match r, hz with
      | a :: r, hz =>
        simp only [List.head?_cons, Option.some.injEq] at hz
        subst hz
        simp only [List.length_cons] at hs hl
        go_enter Tryd.func24, Tryd.ntmps24
        go_wp2
        go_quiet (fail)
        go_wp2
        go_ret3
        exact ⟨rfl, below_drewN (Below.refl _ _) _⟩
    rw [if_neg hz]
    exact take_ok b r w hs (by omega) (by omega) hz
theorem takeNum_num (v : Nat) (hv : v < 18446744073709551616) (more : List UInt8) (hm : more.length ≤ 140737488351232) (w : World) :
    Calls Tryd.prog 24 #[.string ⟨(Lm.numL v ++ more).toArray⟩] w fun e w' => e = .returned (.tuple #[.int .u64 v, .string ⟨more.toArray⟩, .int .i64 0]) ∧ Below w.heap.size w w' := by
  have hl : (Lm.numL v).length ≤ 9 := by rw [Lm.numL_length]; have := Lm.cnt_le v; omega
  have h := takeNum_any (Lm.numL v ++ more) w (by simp; omega)
  rw [Lm.take_num v (by omega) more] at h
  exact h
theorem takeNum_bad (s : List UInt8) (hs : s.length ≤ 140737488351232) (h : (Lm.takeNumL s).2.2 ≠ 0) (w : World) :
    Calls Tryd.prog 24 #[.string ⟨s.toArray⟩] w fun e w' => (∃ (y g : Nat) (l : List UInt8), ((g : Int) == 0) = false ∧ e = .returned (.tuple #[.int .u64 y, .string ⟨l.toArray⟩, .int .i64 g])) ∧ Below w.heap.size w w' := by
  refine (takeNum_any s w (by omega)).mono ?_
  rintro e w' ⟨rfl, hb⟩
  exact ⟨⟨_, _, _, by simpa using h, rfl⟩, hb⟩
theorem takeNum_cut (v c : Nat) (hc : c < (Lm.numL v).length) (w : World) :
    Calls Tryd.prog 24 #[.string ⟨((Lm.numL v).take c).toArray⟩] w fun e w' => (∃ (y : Nat) (l : List UInt8), e = .returned (.tuple #[.int .u64 y, .string ⟨l.toArray⟩, .int .i64 2])) ∧ Below w.heap.size w w' := by
  have h9 : (Lm.numL v).length ≤ 9 := by rw [Lm.numL_length]; have := Lm.cnt_le v; omega
  have h := takeNum_any ((Lm.numL v).take c) w (by simp; omega)
  rw [Lm.takeNum_short v c hc] at h
  refine h.mono ?_
  rintro e w' ⟨rfl, hb⟩
  exact ⟨⟨_, _, rfl⟩, hb⟩
end Go.Proofs.YtjhklkckiogobaaDoor
