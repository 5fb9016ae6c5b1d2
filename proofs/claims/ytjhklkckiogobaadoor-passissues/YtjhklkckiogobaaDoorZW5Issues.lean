/-
  The walk of PassIssues.
-/
import Derived.Test.YtjhklkckiogobaaDoorZShown5
import Derived.Test.YtjhklkckiogobaaDoorZR5
namespace Go.Proofs.YtjhklkckiogobaaDoor
set_option maxRecDepth 100000
open Go.RowKit
set_option linter.unusedVariables false
attribute [local go_sem] ba_size
set_option maxHeartbeats 4000000 in
theorem issues5_walk (w : World) (k : List UInt8) (lk : k.length ≤ 140737488351232) (t : List UInt8) (lt : t.length ≤ 140737488351232) (u : Nat) (hu : u < 18446744073709551616) (s : List UInt8) (ls : s.length ≤ 140737488351232) (o : List UInt8) (lo : o.length ≤ 140737488351232) (hG : G w) :
    Calls Tryd.prog 3 #[.agg #[.string ⟨k.toArray⟩, .string ⟨t.toArray⟩, .int .u64 (u : Int), .string ⟨s.toArray⟩, .string ⟨o.toArray⟩]] w fun e w' => e = .returned (.bool true) ∧ Below w.heap.size w w' := by
  have hg3 := hG.size
  have HSh : Hid (∀ W, Below w.heap.size w W → Calls Tryd.prog 10 #[] W fun e w' => e = .returned (.bool true) ∧ Below W.heap.size W w') := fun W h => shown5_any W (hG.below h hg3)
  have al : ∀ o, Below w.heap.size w (w.alloc o) := fun o => (Below.refl _ w).alloc (Nat.le_refl _) o
  have HI : Hid (∀ W, Below w.heap.size w W → Calls Tryd.prog 11 #[.string ⟨k.toArray⟩, .string ⟨t.toArray⟩, .int .u64 (u : Int)] W fun e w' => e = .returned (.tuple #[.string ⟨(issueL keyL k t u).1.toArray⟩, .int .i64 ((issueL keyL k t u).2 : Int)]) ∧ Below W.heap.size W w') := fun W h => issue5_any k t u hu W (hG.below h hg3)
  have RI : Hid (∀ W, Below w.heap.size w W → Calls Tryd.prog 12 #[.string ⟨k.toArray⟩, .string ⟨t.toArray⟩, .int .u64 (u : Int)] W fun e w' => e = .returned (.tuple #[.string ⟨(issueL keyL k t u).1.toArray⟩, .int .i64 ((issueL keyL k t u).2 : Int)]) ∧ Below W.heap.size W w') := fun W h => rissue_any k t u hu W
  have HT : Hid (∀ W, Below w.heap.size w W → Calls Tryd.prog 13 #[.string ⟨s.toArray⟩] W fun e w' => e = .returned (takeV (takeR (s))) ∧ Below W.heap.size W w') := fun W h => take5_any (s) (by omega) W
  have RT : Hid (∀ W, Below w.heap.size w W → Calls Tryd.prog 14 #[.string ⟨s.toArray⟩] W fun e w' => e = .returned (takeV (takeR (s))) ∧ Below W.heap.size W w') := fun W h => rtake5_any (s) (by omega) W
  have HE : Hid (∀ W, Below w.heap.size w W → Calls Tryd.prog 15 #[.string ⟨s.toArray⟩, .string ⟨o.toArray⟩] W fun e w' => e = .returned (.bool (s == o)) ∧ Below W.heap.size W w') := fun W h => equal5_any s o (by omega) (by omega) W
  unfold takeV at HT RT
  obtain ⟨⟨i1, i2⟩, hi⟩ : ∃ r, issueL keyL k t u = r := ⟨_, rfl⟩
  obtain ⟨⟨r1, r2, r3, r4⟩, hr⟩ : ∃ r, takeR s = r := ⟨_, rfl⟩
  rw [hi] at HI RI
  rw [hr] at HT RT
  simp only at HI RI HT RT
  clear hi hr
  have e1 : (i1 == i1) = true := beq_self_eq_true i1
  have e2 : (r1 == r1) = true := beq_self_eq_true r1
  have e3 : (r3 == r3) = true := beq_self_eq_true r3
  by_cases hso : s = o
  · subst hso
    have e4 : (s == s) = true := beq_self_eq_true s
    rw [e4] at HE
    go_enter Tryd.func3, Tryd.ntmps3
    go_wp2_with fail
    refine (HSh.out _ (al _)).mono ?_
    rintro e w1 ⟨rfl, b1⟩
    have B1 := bel_trans (al _) b1
    go_wp2_with fail
    refine (HI.out w1 B1).mono ?_
    rintro e w2 ⟨rfl, b2⟩
    have B2 := bel_trans B1 b2
    go_wp2_with fail
    refine (RI.out w2 B2).mono ?_
    rintro e w3 ⟨rfl, b3⟩
    have B3 := bel_trans B2 b3
    go_wp2_with fail
    refine (HT.out w3 B3).mono ?_
    rintro e w4 ⟨rfl, b4⟩
    have B4 := bel_trans B3 b4
    go_wp2_with fail
    refine (RT.out w4 B4).mono ?_
    rintro e w5 ⟨rfl, b5⟩
    have B5 := bel_trans B4 b5
    go_wp2_with fail
    refine (HE.out w5 B5).mono ?_
    rintro e w6 ⟨rfl, b6⟩
    have B6 := bel_trans B5 b6
    go_wp2_with fail
    go_ret
    exact ⟨rfl, B6⟩
  · have e4 : (s == o) = false := by rw [beq_eq_false_iff_ne]; exact hso
    rw [e4] at HE
    clear hso
    go_enter Tryd.func3, Tryd.ntmps3
    go_wp2_with fail
    refine (HSh.out _ (al _)).mono ?_
    rintro e w1 ⟨rfl, b1⟩
    have B1 := bel_trans (al _) b1
    go_wp2_with fail
    refine (HI.out w1 B1).mono ?_
    rintro e w2 ⟨rfl, b2⟩
    have B2 := bel_trans B1 b2
    go_wp2_with fail
    refine (RI.out w2 B2).mono ?_
    rintro e w3 ⟨rfl, b3⟩
    have B3 := bel_trans B2 b3
    go_wp2_with fail
    refine (HT.out w3 B3).mono ?_
    rintro e w4 ⟨rfl, b4⟩
    have B4 := bel_trans B3 b4
    go_wp2_with fail
    refine (RT.out w4 B4).mono ?_
    rintro e w5 ⟨rfl, b5⟩
    have B5 := bel_trans B4 b5
    go_wp2_with fail
    refine (HE.out w5 B5).mono ?_
    rintro e w6 ⟨rfl, b6⟩
    have B6 := bel_trans B5 b6
    go_wp2_with fail
    go_ret
    exact ⟨rfl, B6⟩
end Go.Proofs.YtjhklkckiogobaaDoor
