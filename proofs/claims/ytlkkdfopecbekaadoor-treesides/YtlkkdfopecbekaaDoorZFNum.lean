/-
  What lump.Num answers, at whatever number.
-/
import Derived.Test.YtlkkdfopecbekaaDoorProg
import Derived.Test.YtlkkdfopecbekaaDoorGA
import Derived.Test.YtlkkdfopecbekaaDoorGB
namespace Go.Proofs.YtlkkdfopecbekaaDoor
set_option maxRecDepth 100000
open Go.RowKit
/-- The array b of Num behind k rounds. -/
def nine (v k : Nat) : List Int := List.replicate (9 - k) 0 ++ (Lm.low k v).map (fun b => (b.toNat : Int))
def nineA (v k : Nat) : Array Value := ((nine v k).map (Value.int .u8)).toArray
theorem nine_length (v k : Nat) (h : k ≤ 9) : (nine v k).length = 9 := by simp [nine, Lm.low_length]; omega
theorem nine_at (v k j : Nat) (h : j < 9 - k) : (nineA v k)[j]? = some (.int .u8 0) := by
  simp [nineA, nine, List.getElem?_append, h]
theorem nine_set (v k : Nat) (h : k < 9) (x : Int) : (nine v k).set (8 - k) x = List.replicate (8 - k) 0 ++ x :: (Lm.low k v).map (fun b => (b.toNat : Int)) := by
  unfold nine
  rw [show 9 - k = 8 - k + 1 from by omega, List.replicate_succ', List.append_assoc, List.set_append_right _ _ (by simp)]
  simp
theorem nineA_set (v k m : Nat) (h : m + k = 8) (x : Int) : (nineA v k).setIfInBounds m (.int .u8 x) = ((List.replicate m (0 : Int) ++ x :: (Lm.low k v).map (fun b : UInt8 => (b.toNat : Int))).map (Value.int .u8)).toArray := by
  obtain rfl : m = 8 - k := by omega
  rw [← nine_set v k (by omega) x]
  simp [nineA]
theorem nineA_next (v k m : Nat) (h : m + 1 + k = 8) : (nineA v k).setIfInBounds (m + 1) (.int .u8 (((v / 256 ^ k : Nat) : Int) % 256)) = nineA v (k + 1) := by
  rw [nineA_set v k (m + 1) h]
  unfold nineA nine
  rw [show 9 - (k + 1) = m + 1 from by omega, Lm.low]
  congr 3
theorem row_cells (w : World) (m : Nat) (xs : List Int) (t : TypeId) (i : Nat) (hi : i < xs.length) :
    (w.alloc (.cells ((List.replicate m (0 : Int) ++ xs).map (Value.int .u8)).toArray t)).cell? ⟨w.heap.size, m + i, none⟩ = some (.int .u8 (xs.getD i 0)) := by
  rw [World.cell?_alloc_new]
  simp [hi]
theorem slice60 (w : World) (b m : Nat) (hm : m < 9) :
    (Instr.sliceAt 97 (.pointer (some ⟨b, 0, none⟩)) (some (.int .i64 (m : Int))) none none).run Tryd.prog w = .ok (.slice (some ⟨b, m, none⟩) (9 - m) (9 - m)) w := by
  have hl : Tryd.prog.arrayLen 97 = 9 := by kernel_rfl
  have hz : ∀ w, (Go.sizeOf (Tryd.prog.elem 97)).run Tryd.prog w = .ok 1 w := fun w => by kernel_rfl
  rw [run_sliceAt_array_l w 97 ⟨b, 0, none⟩ (by kernel_rfl) .i64 m (by omega) (by rw [hl]; omega), hl, hz]
  simp only [Result.andThen, slicedAt, Int.toNat_natCast]
  rw [if_neg (by omega)]
  unfold Addr.add; split <;> simp_all
set_option maxHeartbeats 400000 in
theorem num_any (v : Nat) (hv : v < 18446744073709551616) (w : World) :
    Calls Tryd.prog 56 #[.int .u64 v] w fun e w' => e = .returned (.string ⟨(Lm.numL v).toArray⟩) ∧ Below w.heap.size w w' := by
  go_enter Tryd.func56, Tryd.ntmps56
  go_wp2
  go_loopw [0, 4] (fun a i wr => ∃ m k : Nat, m + k = 8 ∧ a = .int .u64 ((v / 256 ^ k : Nat) : Int) ∧ i = .int .i64 ((m : Int) + 1) ∧ (k = 0 ∨ 0 < v / 256 ^ (k - 1)) ∧ wr = w.alloc (.cells (nineA v k) 97))
    (fun _ i _ => (intOf i).toNat)
  case atStart => exact ⟨8, 0, rfl, by simp, rfl, .inl rfl, rfl⟩
  case round =>
    obtain ⟨m, k, hmk, rfl, rfl, hk, rfl⟩ := hrel
    by_cases hlt : 0 < v / 256 ^ k
    · have hk8 := Lm.loop_le v k (by omega) hlt
      obtain ⟨m, rfl⟩ : ∃ m', m = m' + 1 := ⟨m - 1, by omega⟩
      have hc := nine_at v k (m + 1) (by omega)
      have hx : ((v / 256 ^ k : Nat) : Int) < 18446744073709551616 := by have := Nat.div_le_self v (256 ^ k); omega
      have hN := nineA_next v k m hmk
      have hD : v / 256 ^ (k + 1) = v / 256 ^ k / 256 := by rw [Nat.pow_succ, Nat.div_div_eq_div_mul]
      generalize hxx : v / 256 ^ k = x at *
      have HN : Hid _ := hN; clear hN
      have HD : Hid _ := hD; clear hD
      have HX : Hid _ := hxx; clear hxx
      go_wp2
      go_roundw
      case rel => exact ⟨m, k + 1, by omega, by rw [HD.out]; simp, rfl, .inr (by simpa [HX.out] using hlt), by rw [HN.out]⟩
      case measure => simp [intOf]; omega
    · have hz : v / 256 ^ k = 0 := Nat.eq_zero_of_not_pos hlt
      obtain rfl := Lm.cnt_of_loop v k (by omega) hk hz
      have hc := nine_at v (Lm.cnt v) m (by omega)
      have hs := nineA_set v (Lm.cnt v) m hmk (Lm.cnt v)
      have hkm : (Lm.cnt v : Int) = 8 - m := by omega
      rw [hz]
      have hfin : strOfNums ((Lm.cnt v : Int) :: (Lm.low (Lm.cnt v) v).map (fun b : UInt8 => (b.toNat : Int))) = ⟨(Lm.numL v).toArray⟩ := by
        simp [strOfNums, Lm.numL, Function.comp_def]
      have HF : Hid _ := hfin; clear hfin
      generalize Lm.cnt v = k at *
      have HS : Hid _ := hs; clear hs
      have HK : Hid _ := hkm; clear hkm
      have HZ : Hid _ := hz; clear hz
      have hm8 : m ≤ 8 := by omega
      have HM : Hid _ := hmk; clear hmk
      clear hlt hk
      have hsl := fun w' => slice60 w' w.heap.size m (by omega)
      have hcv := run_convert_bytes_arg (P := Tryd.prog) (w.alloc (Obj.cells ((nineA v k).setIfInBounds m (Value.int IntKind.u8 (9 - (↑m + 1)))) 97)) 92 5 (by kernel_rfl) (by kernel_rfl) w.heap.size m (9 - m) (9 - m) ((k : Int) :: (Lm.low k v).map (fun b : UInt8 => (b.toNat : Int))) (by have := HM.out; simp [Lm.low_length]; omega)
        (by
          intro i hi
          have e : (9 - ((m : Int) + 1)) = k := by have := HM.out; omega
          rw [e, HS.out]
          exact row_cells w m _ 97 i (by have := HM.out; simp [Lm.low_length]; omega)) 9 (by kernel_rfl)
      go_wp2
      go_ret
      exact ⟨ret_str HF.out, (Below.refl _ _).alloc (Nat.le_refl _) _⟩
theorem num_len (v : Nat) : (Lm.numL v).length ≤ 9 := by rw [Lm.numL_length]; have := Lm.cnt_le v; omega
end Go.Proofs.YtlkkdfopecbekaaDoor
