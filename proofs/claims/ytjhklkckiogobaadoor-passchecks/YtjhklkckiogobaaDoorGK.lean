/-
  What cartoucheref01.size answers.
  What cartoucheref01.Text answers, at whatever text.
  What cartoucheref01.takeSize answers, at whatever bytes.
  What cartoucheref01.TakeText answers, at whatever bytes.
  What cartoucheref01.TakeNum answers, at whatever bytes.
  What cartoucheref01.Num answers, at whatever number.
-/
import Derived.Test.YtjhklkckiogobaaDoorGJ
import Derived.Test.YtjhklkckiogobaaDoorProg
import Derived.Test.YtjhklkckiogobaaDoorGA
import Derived.Test.YtjhklkckiogobaaDoorZBase
import Derived.BigQuiet
import Derived.Deep.QuietTactic
namespace Go.Proofs.YtjhklkckiogobaaDoor
set_option maxRecDepth 100000
open Go.RowKit
attribute [local go_sem] ba_size ba_get ba_extract ba_append wrap_byte wrap_u64_byte take_drop_end
set_option maxHeartbeats 400000 in
theorem size_any (n : Nat) (hn : n ≤ 65535) (w : World) :
    Calls Tryd.prog 41 #[.int .i64 n] w fun e w' => e = .returned (.string ⟨(Lm.lenL n).toArray⟩) ∧ Below w.heap.size w w' := by
  have c1 := conv1
  have c3 := conv3
  by_cases h : n ≤ 250
  · go_enter Tryd.func41, Tryd.ntmps41
    go_wp2
    go_ret
    exact ⟨ret_str (nums_short n h), (Below.refl _ _).alloc (Nat.le_refl _) _⟩
  · go_enter Tryd.func41, Tryd.ntmps41
    go_wp2
    go_ret
    exact ⟨ret_str (nums_long n h), (Below.refl _ _).alloc (Nat.le_refl _) _⟩
end Go.Proofs.YtjhklkckiogobaaDoor
namespace Go.Proofs.YtjhklkckiogobaaDoor
set_option maxRecDepth 100000
open Go.RowKit
attribute [local go_sem] ba_size ba_get ba_extract ba_append wrap_byte wrap_u64_byte take_drop_end
set_option maxHeartbeats 400000 in
theorem refText_any (l : List UInt8) (hl : l.length ≤ 9223372036854775807) (w : World) :
    Calls Tryd.prog 30 #[.string ⟨l.toArray⟩] w fun e w' => e = .returned (.tuple #[.string ⟨(Lm.textL l).1.toArray⟩, .int .i64 ((Lm.textL l).2 : Int)]) ∧ Below w.heap.size w w' := by
  unfold Lm.textL
  by_cases h : 65535 < l.length
  · rw [if_pos h]
    go_enter Tryd.func30, Tryd.ntmps30
    go_wp2
    go_ret2
    exact ⟨rfl, Below.refl _ _⟩
  · rw [if_neg h]
    go_enter Tryd.func30, Tryd.ntmps30
    go_wp2_with fail
    refine (size_any l.length (by omega) _).mono ?_
    rintro e w1 ⟨rfl, hb1⟩
    have hll := Lm.lenL_le l.length
    go_wp2_with fail
    go_ret2
    exact ⟨rfl, hb1⟩
theorem refText_ok (l : List UInt8) (h : ¬ 65535 < l.length) (w : World) :
    Calls Tryd.prog 30 #[.string ⟨l.toArray⟩] w fun e w' => e = .returned (.tuple #[.string ⟨(Lm.lenL l.length ++ l).toArray⟩, .int .i64 0]) ∧ Below w.heap.size w w' := by
  have := refText_any l (by omega) w
  unfold Lm.textL at this
  rw [if_neg h] at this
  exact this
theorem refText_big (l : List UInt8) (hl : l.length ≤ 9223372036854775807) (h : 65535 < l.length) (w : World) :
    Calls Tryd.prog 30 #[.string ⟨l.toArray⟩] w fun e w' => e = .returned (.tuple #[.string ⟨#[]⟩, .int .i64 4]) ∧ Below w.heap.size w w' := by
  have := refText_any l hl w
  unfold Lm.textL at this
  rw [if_pos h] at this
  exact this
end Go.Proofs.YtjhklkckiogobaaDoor
namespace Go.Proofs.YtjhklkckiogobaaDoor
set_option maxRecDepth 100000
open Go.RowKit
attribute [local go_sem] ba_size ba_get ba_extract ba_append wrap_byte wrap_u64_byte take_drop_end
set_option maxHeartbeats 400000 in
theorem takeSize_any (l : List UInt8) (w : World) (hs : l.length ≤ 9223372036854775807) :
    Calls Tryd.prog 36 #[.string ⟨l.toArray⟩] w fun e w' => e = .returned (.tuple #[.int .i64 ((Lm.sizeL l).1 : Int), .string ⟨(Lm.sizeL l).2.1.toArray⟩, .int .i64 ((Lm.sizeL l).2.2 : Int)]) ∧ Below w.heap.size w w' := by
  match l, hs with
  | [], _ =>
    go_enter Tryd.func36, Tryd.ntmps36
    go_wp2
    go_ret3
    exact ⟨rfl, Below.refl _ _⟩
  | b :: r, hs =>
    simp only [List.length_cons] at hs
    by_cases h1 : b.toNat ≤ 250
    · have e : Lm.sizeL (b :: r) = (b.toNat, r, 0) := by simp [Lm.sizeL, h1]
      rw [e]; clear e
      go_enter Tryd.func36, Tryd.ntmps36
      go_wp2
      go_quiet (fail)
      go_wp2
      go_ret3
      exact ⟨rfl, below_drewN (Below.refl _ _) _⟩
    by_cases h2 : 251 < b.toNat
    · have e : Lm.sizeL (b :: r) = (0, [], 3) := by simp [Lm.sizeL, h1, h2]
      rw [e]; clear e
      go_enter Tryd.func36, Tryd.ntmps36
      go_wp2
      go_ret3
      exact ⟨rfl, Below.refl _ _⟩
    obtain rfl : b = 251 := by apply UInt8.toNat_inj.1; show b.toNat = 251; omega
    clear h1 h2
    match r, hs with
    | [], hs =>
      go_enter Tryd.func36, Tryd.ntmps36
      go_wp2
      go_ret3
      exact ⟨rfl, Below.refl _ _⟩
    | [a], hs =>
      go_enter Tryd.func36, Tryd.ntmps36
      go_wp2
      go_ret3
      exact ⟨rfl, Below.refl _ _⟩
    | a :: c :: r, hs =>
      simp only [List.length_cons] at hs
      have ha := a.toNat_lt
      have hc := c.toNat_lt
      by_cases h3 : 256 * a.toNat + c.toNat ≤ 250
      · have e : Lm.sizeL (251 :: a :: c :: r) = (0, [], 3) := by simp [Lm.sizeL, h3]
        rw [e]; clear e
        go_enter Tryd.func36, Tryd.ntmps36
        go_wp2
        go_quiet (fail)
        go_wp2
        go_ret3
        exact ⟨rfl, below_drewN (Below.refl _ _) _⟩
      · have e : Lm.sizeL (251 :: a :: c :: r) = (256 * a.toNat + c.toNat, r, 0) := by simp [Lm.sizeL, h3]
        rw [e]; clear e
        go_enter Tryd.func36, Tryd.ntmps36
        go_wp2
        go_quiet (fail)
        go_wp2
        go_quiet (fail)
        go_wp2
        go_ret3
        exact ⟨rfl, below_drewN (below_drewN (Below.refl _ _) _) _⟩
end Go.Proofs.YtjhklkckiogobaaDoor
namespace Go.Proofs.YtjhklkckiogobaaDoor
set_option maxRecDepth 100000
open Go.RowKit
attribute [local go_sem] ba_size ba_get ba_extract ba_append wrap_byte wrap_u64_byte take_drop_end
set_option maxHeartbeats 800000 in
theorem refTakeText_any (l : List UInt8) (most : Int) (w : World) (hs : l.length ≤ 9223372036854775807) :
    Calls Tryd.prog 25 #[.string ⟨l.toArray⟩, .int .i64 most] w fun e w' => e = .returned (.tuple #[.string ⟨(Lm.takeTextL l most).1.toArray⟩, .string ⟨(Lm.takeTextL l most).2.1.toArray⟩, .int .i64 ((Lm.takeTextL l most).2.2 : Int)]) ∧ Below w.heap.size w w' := by
  have hbd := sizeL_bd l
  have hc := takeSize_any l w hs
  unfold Lm.takeTextL Lm.takeLenL
  generalize Lm.sizeL l = x at *
  obtain ⟨n, rest, e⟩ := x
  have HC : Hid (Calls Tryd.prog 36 #[.string ⟨l.toArray⟩] w fun e' w' => e' = .returned (.tuple #[.int .i64 (n : Int), .string ⟨rest.toArray⟩, .int .i64 (e : Int)]) ∧ Below w.heap.size w w') := hc
  simp only at hbd
  clear hc
  by_cases he : e ≠ 0
  · simp only [he, ne_eq, not_false_eq_true, if_true]
    have hb : ((e : Int) != 0) = true := by simp; omega
    go_enter Tryd.func25, Tryd.ntmps25
    go_wp2_with fail
    refine HC.out.mono ?_
    rintro e w1 ⟨rfl, hb1⟩
    go_wp2_with fail
    go_ret3
    exact ⟨rfl, hb1⟩
  · have he' : e = 0 := by omega
    subst he'
    clear he
    simp only [ne_eq, not_true_eq_false, if_false]
    by_cases hmn : most < (n : Int)
    · simp only [hmn, if_true]
      rw [if_pos (by simp)]
      have hor : most < 0 ∨ (¬ most < 0 ∧ True) := by by_cases h : most < 0; exact .inl h; exact .inr ⟨h, trivial⟩
      rcases hor with h0 | ⟨h0, -⟩
      all_goals
        go_enter Tryd.func25, Tryd.ntmps25
        go_wp2_with fail
        refine HC.out.mono ?_
        rintro e w1 ⟨rfl, hb1⟩
        go_wp2_with fail
        go_ret3
        exact ⟨rfl, hb1⟩
    · simp only [hmn, if_false]
      simp only [not_true_eq_false, if_false]
      have h0 : ¬ most < 0 := by omega
      by_cases hl : rest.length < n
      · rw [if_pos hl]
        go_enter Tryd.func25, Tryd.ntmps25
        go_wp2_with fail
        refine HC.out.mono ?_
        rintro e w1 ⟨rfl, hb1⟩
        go_wp2_with fail
        go_ret3
        exact ⟨rfl, hb1⟩
      · rw [if_neg hl]
        go_enter Tryd.func25, Tryd.ntmps25
        go_wp2_with fail
        refine HC.out.mono ?_
        rintro e w1 ⟨rfl, hb1⟩
        go_wp2_with fail
        go_quiet (fail)
        go_wp2
        go_ret3
        exact ⟨rfl, below_drewN hb1 _⟩
end Go.Proofs.YtjhklkckiogobaaDoor
namespace Go.Proofs.YtjhklkckiogobaaDoor
set_option maxRecDepth 100000
open Go.RowKit
attribute [local go_sem] ba_size ba_get ba_extract ba_append wrap_byte wrap_u64_byte take_drop_end
set_option maxHeartbeats 800000 in
theorem rtake_ok (b : UInt8) (r : List UInt8) (w : World) (hs : r.length + 1 ≤ 9223372036854775807) (h8 : b.toNat ≤ 8) (hl : b.toNat ≤ r.length) (hz : ¬ (0 < b.toNat ∧ r.head? = some 0)) :
    Calls Tryd.prog 26 #[.string ⟨(b :: r).toArray⟩] w fun e w' => e = .returned (.tuple #[.int .u64 (Lm.val (r.take b.toNat)), .string ⟨(r.drop b.toNat).toArray⟩, .int .i64 0]) ∧ Below w.heap.size w w' := by
  have HH : Hid (∀ k, k ≤ b.toNat → Lm.val (r.take k) < 256 ^ k) := fun k hk => by
    have := Lm.val_lt (r.take k); rwa [List.length_take_of_le (by omega)] at this
  have hgo : ¬ 0 < b.toNat ∨ (0 < b.toNat ∧ ∃ hr0 : 0 < r.length, ((r[0].toNat : Int) == 0) = false) := by
    by_cases h0 : 0 < b.toNat
    · have hr0 : 0 < r.length := by omega
      refine .inr ⟨h0, hr0, ?_⟩
      cases r with
      | nil => simp at hr0
      | cons a r =>
        simp only [List.head?_cons, Option.some.injEq, h0, true_and] at hz
        simp only [List.getElem_cons_zero, beq_eq_false_iff_ne, ne_eq]
        intro h; apply hz; apply UInt8.toNat_inj.1; simpa using h
    · exact .inl h0
  clear hz
  rcases hgo with h0 | ⟨h0, hr0, hrz⟩
  all_goals
    go_enter Tryd.func26, Tryd.ntmps26
    go_wp2
    go_loop [6, 7] (fun a i => ∃ k : Nat, k ≤ b.toNat ∧ i = .int .i64 ((k : Int) + 1) ∧ a = .int .u64 (Lm.val (r.take k))) (fun _ i => b.toNat + 1 - (intOf i).toNat)
    case atStart => exact ⟨0, Nat.zero_le _, rfl, rfl⟩
    case round =>
      obtain ⟨k, hk, rfl, rfl⟩ := hrel
      by_cases hlt : k < b.toNat
      · have hkr : k < r.length := by omega
        have hb1 := HH.out k hk
        have hb2 : Lm.val (r.take k) < 72057594037927936 := by
          have : 256 ^ k ≤ 256 ^ 7 := Nat.pow_le_pow_right (by omega) (by omega)
          have e : (256 : Nat) ^ 7 = 72057594037927936 := by decide
          omega
        have hor : Lm.val (r.take (k + 1)) = 256 * Lm.val (r.take k) + r[k].toNat := by
          rw [List.take_succ_eq_append_getElem hkr, Lm.val_snoc]
        have HO : Hid _ := hor
        have hrb := r[k].toNat_lt
        clear hb1 hor
        go_wp2
        all_goals
          go_round
          case rel => exact ⟨k + 1, by omega, by go_num, by rw [HO.out]; rfl⟩
          case measure => simp [intOf]; omega
      · obtain rfl : k = b.toNat := by omega
        go_wp2
        go_quiet (fail)
        go_wp2
        go_ret3
        exact ⟨rfl, below_drewN (Below.refl _ _) _⟩
set_option maxHeartbeats 400000 in
theorem refTakeNum_any (l : List UInt8) (w : World) (hs : l.length ≤ 9223372036854775807) :
    Calls Tryd.prog 26 #[.string ⟨l.toArray⟩] w fun e w' => e = .returned (.tuple #[.int .u64 ((Lm.takeNumL l).1 : Int), .string ⟨(Lm.takeNumL l).2.1.toArray⟩, .int .i64 ((Lm.takeNumL l).2.2 : Int)]) ∧ Below w.heap.size w w' := by
  match l, hs with
  | [], _ =>
    go_enter Tryd.func26, Tryd.ntmps26
    go_wp2
    go_ret3
    exact ⟨rfl, Below.refl _ _⟩
  | b :: r, hs =>
    simp only [List.length_cons] at hs
    rw [Lm.takeNumL]
    by_cases h8 : 8 < b.toNat
    · rw [if_pos h8]
      go_enter Tryd.func26, Tryd.ntmps26
      go_wp2
      go_ret3
      exact ⟨rfl, Below.refl _ _⟩
    rw [if_neg h8]
    by_cases hl : r.length < b.toNat
    · rw [if_pos hl]
      go_enter Tryd.func26, Tryd.ntmps26
      go_wp2
      go_ret3
      exact ⟨rfl, Below.refl _ _⟩
    rw [if_neg hl]
    by_cases hz : 0 < b.toNat ∧ r.head? = some 0
    · rw [if_pos hz]
      obtain ⟨h0, hz⟩ := hz
      match r, hz with
      | a :: r, hz =>
        simp only [List.head?_cons, Option.some.injEq] at hz
        subst hz
        simp only [List.length_cons] at hs hl
        go_enter Tryd.func26, Tryd.ntmps26
        go_wp2
        go_ret3
        exact ⟨rfl, Below.refl _ _⟩
    rw [if_neg hz]
    exact rtake_ok b r w hs (by omega) (by omega) hz
end Go.Proofs.YtjhklkckiogobaaDoor
namespace Go.Proofs.YtjhklkckiogobaaDoor
set_option maxRecDepth 100000
open Go.RowKit
attribute [local go_sem] ba_size ba_get ba_extract ba_append wrap_byte wrap_u64_byte take_drop_end
theorem low_succ (k v : Nat) : Lm.low (k + 1) v = UInt8.ofNat (v / 256 ^ k % 256) :: Lm.low k v := by
  rw [Lm.low]; congr 1; apply UInt8.toNat_inj.1; simp
theorem low_le (k v : Nat) (h : k ≤ 8) : (Lm.low k v).length ≤ 8 := by rw [Lm.low_length]; exact h
set_option maxHeartbeats 400000 in
theorem refNum_any (v : Nat) (hv : v < 18446744073709551616) (w : World) :
    Calls Tryd.prog 31 #[.int .u64 v] w fun e w' => e = .returned (.string ⟨(Lm.numL v).toArray⟩) ∧ Below w.heap.size w w' := by
  have c1 := conv1
  go_enter Tryd.func31, Tryd.ntmps31
  go_wp2
  go_loopw [0, 3, 4] (fun a s i wr => ∃ k : Nat, k ≤ 8 ∧ a = .int .u64 ((v / 256 ^ k : Nat) : Int) ∧ s = .string ⟨(Lm.low k v).toArray⟩ ∧ i = .int .i64 (k : Int) ∧ (k = 0 ∨ 0 < v / 256 ^ (k - 1)) ∧ Below w.heap.size w wr)
    (fun _ _ i _ => 8 - (intOf i).toNat)
  case atStart => exact ⟨0, by omega, by simp, rfl, rfl, .inl rfl, Below.refl _ _⟩
  case round =>
    obtain ⟨k, hk8, rfl, rfl, rfl, hk, hbw⟩ := hrel
    by_cases hlt : 0 < v / 256 ^ k
    · have hk8 := Lm.loop_le v k (by omega) hlt
      have hx : ((v / 256 ^ k : Nat) : Int) < 18446744073709551616 := by have := Nat.div_le_self v (256 ^ k); omega
      have hD : v / 256 ^ (k + 1) = v / 256 ^ k / 256 := by rw [Nat.pow_succ, Nat.div_div_eq_div_mul]
      generalize hxx : v / 256 ^ k = x at *
      have HD : Hid _ := hD; clear hD
      have HX : Hid _ := hxx; clear hxx
      have hll := low_le k v (by omega)
      go_wp2
      go_roundw
      case rel => exact ⟨k + 1, by omega, by rw [HD.out]; simp, by rw [low_succ, HX.out], by go_num, .inr (by simpa [HX.out] using hlt), hbw.alloc hbw.size _⟩
      case measure => simp [intOf]; omega
    · have hz : v / 256 ^ k = 0 := Nat.eq_zero_of_not_pos hlt
      obtain rfl := Lm.cnt_of_loop v k (by omega) hk hz
      rw [hz]
      clear hz hlt hk
      have hll := low_le (Lm.cnt v) v hk8
      go_wp2
      go_ret
      exact ⟨rfl, hbw.alloc hbw.size _⟩
end Go.Proofs.YtjhklkckiogobaaDoor
