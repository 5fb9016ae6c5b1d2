/-
  What lump.TakeNum answers, at whatever bytes.
-/
import Derived.Test.YtpplplemjccdjaaProg
import Derived.Test.YtpplplemjccdjaaMath2
import Derived.Test.YtpplplemjccdjaaBase
import Derived.BigQuiet
import Derived.Deep.QuietTactic
namespace Go.Proofs.Ytpplplemjccdjaa
open Go.RowKit
attribute [local go_sem] ba_size ba_get ba_extract ba_append wrap_byte wrap_u64_byte take_drop_end
set_option maxHeartbeats 400000 in
theorem take_ok (b : UInt8) (r : List UInt8) (w : World) (hs : r.length + 1 ≤ 9223372036854775807) (h8 : b.toNat ≤ 8) (hl : b.toNat ≤ r.length) (hz : ¬ (0 < b.toNat ∧ r.head? = some 0)) :
    Calls Try.prog 18 #[.string ⟨(b :: r).toArray⟩] w fun e w' => e = .returned (.tuple #[.int .u64 (Lm.val (r.take b.toNat)), .string ⟨(r.drop b.toNat).toArray⟩, .int .i64 0]) ∧ Below w.heap.size w w' := by
  have HH : Hid (∀ k, k ≤ b.toNat → Lm.val (r.take k) < 256 ^ k) := fun k hk => by
    have := Lm.val_lt (r.take k); rwa [List.length_take_of_le (by omega)] at this
  have hgo : b.toNat = 0 ∨ ∃ hr0 : 0 < r.length, ((r[0].toNat : Int) == 0) = false := by
    by_cases h0 : 0 < b.toNat
    · have hr0 : 0 < r.length := by omega
      refine .inr ⟨hr0, ?_⟩
      cases r with
      | nil => simp at hr0
      | cons a r =>
        simp only [List.head?_cons, Option.some.injEq, h0, true_and] at hz
        simp only [List.getElem_cons_zero, beq_eq_false_iff_ne, ne_eq]
        intro h; apply hz; apply UInt8.toNat_inj.1; simpa using h
    · exact .inl (by omega)
  clear hz
  have hgo' : ¬ 0 < b.toNat ∨ (0 < b.toNat ∧ ∃ hr0 : 0 < r.length, ((r[0].toNat : Int) == 0) = false) := by
    rcases hgo with h | h
    · exact .inl (by omega)
    · by_cases h0 : 0 < b.toNat
      · exact .inr ⟨h0, h⟩
      · exact .inl h0
  clear hgo
  rcases hgo' with h0 | ⟨h0, hr0, hrz⟩
  all_goals
    go_enter Try.func18, Try.ntmps18
    go_wp2
    go_quiet (fail)
    go_wp2
    go_loop [7, 33] (fun a i => ∃ k : Nat, k ≤ b.toNat ∧ i = .int .i64 k ∧ a = .int .u64 (Lm.val (r.take k))) (fun _ i => b.toNat - (intOf i).toNat)
    case atStart => exact ⟨0, Nat.zero_le _, rfl, rfl⟩
    case round =>
      obtain ⟨k, hk, rfl, rfl⟩ := hrel
      by_cases hlt : k < b.toNat
      · have hkr : k < r.length := by omega
        have hb1 := HH.out k hk
        have hb2 : Lm.val (r.take k) < 72057594037927936 := by
          have : 256 ^ k ≤ 256 ^ 7 := Nat.pow_le_pow_right (by omega) (by omega)
          have e : (256 : Nat) ^ 7 = 72057594037927936 := by decide
          omega
        have hor : Lm.val (r.take (k + 1)) = 256 * Lm.val (r.take k) + r[k].toNat := by
          rw [List.take_succ_eq_append_getElem hkr, Lm.val_snoc]
        have HO : Hid _ := hor
        clear hb1 hor
        have hob := or_byte (Lm.val (r.take k)) r[k] hb2
        go_wp2
        go_round
        case rel => exact ⟨k + 1, by omega, by go_num, by rw [HO.out]; rfl⟩
        case measure => simp [intOf]; omega
      · obtain rfl : k = b.toNat := by omega
        go_wp2
        go_quiet (fail)
        go_wp2
        go_ret3
        exact ⟨rfl, below_drewN (below_drewN (Below.refl _ _) _) _⟩
set_option maxHeartbeats 400000 in
theorem takeNum_any (l : List UInt8) (w : World) (hs : l.length ≤ 9223372036854775807) :
    Calls Try.prog 18 #[.string ⟨l.toArray⟩] w fun e w' => e = .returned (.tuple #[.int .u64 ((Lm.takeNumL l).1 : Int), .string ⟨(Lm.takeNumL l).2.1.toArray⟩, .int .i64 ((Lm.takeNumL l).2.2 : Int)]) ∧ Below w.heap.size w w' := by
  match l, hs with
  | [], _ =>
    go_enter Try.func18, Try.ntmps18
    go_wp2
    go_ret3
    exact ⟨rfl, Below.refl _ _⟩
  | b :: r, hs =>
    simp only [List.length_cons] at hs
    rw [Lm.takeNumL]
    by_cases h8 : 8 < b.toNat
    · rw [if_pos h8]
      go_enter Try.func18, Try.ntmps18
      go_wp2
      go_quiet (fail)
      go_wp2
      go_ret3
      exact ⟨rfl, below_drewN (Below.refl _ _) _⟩
    rw [if_neg h8]
    by_cases hl : r.length < b.toNat
    · rw [if_pos hl]
      go_enter Try.func18, Try.ntmps18
      go_wp2
      go_quiet (fail)
      go_wp2
      go_ret3
      exact ⟨rfl, below_drewN (Below.refl _ _) _⟩
    rw [if_neg hl]
    by_cases hz : 0 < b.toNat ∧ r.head? = some 0
    · rw [if_pos hz]
      obtain ⟨h0, hz⟩ := hz
      match r, hz with
      | a :: r, hz =>
        simp only [List.head?_cons, Option.some.injEq] at hz
        subst hz
        simp only [List.length_cons] at hs hl
        go_enter Try.func18, Try.ntmps18
        go_wp2
        go_quiet (fail)
        go_wp2
        go_ret3
        exact ⟨rfl, below_drewN (Below.refl _ _) _⟩
    rw [if_neg hz]
    exact take_ok b r w hs (by omega) (by omega) hz
theorem takeNum_num (v : Nat) (hv : v < 18446744073709551616) (more : List UInt8) (hm : more.length ≤ 140737488351232) (w : World) :
    Calls Try.prog 18 #[.string ⟨(Lm.numL v ++ more).toArray⟩] w fun e w' => e = .returned (.tuple #[.int .u64 v, .string ⟨more.toArray⟩, .int .i64 0]) ∧ Below w.heap.size w w' := by
  have hl : (Lm.numL v).length ≤ 9 := by rw [Lm.numL_length]; have := Lm.cnt_le v; omega
  have h := takeNum_any (Lm.numL v ++ more) w (by simp; omega)
  rw [Lm.take_num v (by omega) more] at h
  exact h
theorem takeNum_bad (s : List UInt8) (hs : s.length ≤ 140737488351232) (h : (Lm.takeNumL s).2.2 ≠ 0) (w : World) :
    Calls Try.prog 18 #[.string ⟨s.toArray⟩] w fun e w' => (∃ (y g : Nat) (l : List UInt8), ((g : Int) == 0) = false ∧ e = .returned (.tuple #[.int .u64 y, .string ⟨l.toArray⟩, .int .i64 g])) ∧ Below w.heap.size w w' := by
  refine (takeNum_any s w (by omega)).mono ?_
  rintro e w' ⟨rfl, hb⟩
  exact ⟨⟨_, _, _, by simpa using h, rfl⟩, hb⟩
theorem takeNum_cut (v c : Nat) (hc : c < (Lm.numL v).length) (w : World) :
    Calls Try.prog 18 #[.string ⟨((Lm.numL v).take c).toArray⟩] w fun e w' => (∃ (y : Nat) (l : List UInt8), e = .returned (.tuple #[.int .u64 y, .string ⟨l.toArray⟩, .int .i64 2])) ∧ Below w.heap.size w w' := by
  have h9 : (Lm.numL v).length ≤ 9 := by rw [Lm.numL_length]; have := Lm.cnt_le v; omega
  have h := takeNum_any ((Lm.numL v).take c) w (by simp; omega)
  rw [Lm.takeNum_short v c hc] at h
  refine h.mono ?_
  rintro e w' ⟨rfl, hb⟩
  exact ⟨⟨_, _, rfl⟩, hb⟩
end Go.Proofs.Ytpplplemjccdjaa
