/-
  The walk of TapeScans.
-/
import Derived.Test.YtlaidbaghjlpfaaGU
namespace Go.Proofs.Ytlaidbaghjlpfaa
set_option maxRecDepth 100000
open Go.RowKit
set_option linter.unusedVariables false
attribute [local go_sem] ba_size ba_append
set_option maxHeartbeats 4000000 in
theorem scans16_walk (a b : List UInt8) (ha : a.length ≤ 274877906944) (hb : b.length ≤ 274877906944) (w : World) : Calls Try.prog 7 #[.string ⟨a.toArray⟩, .string ⟨b.toArray⟩] w fun e w' => e = .returned (.bool true) ∧ Below w.heap.size w w' := by
  have C1 := fun W => psc16 (s := a) (by omega) W
  have C2 := fun W => psc16 (s := b) (by omega) W
  have C3 := fun W => psc16 (s := a ++ b) (by rw [List.length_append]; omega) W
  obtain ⟨j1, j2, j3⟩ := Lm.recs_join a b
  have j4 := j1.length_le
  have a1 := (Lm.scan_parts a).2.1
  have b1 := (Lm.scan_parts b).2.1
  have c1 := (Lm.scan_parts (a ++ b)).2.1
  have a2 := Lm.recs_few a
  have b2 := Lm.recs_few b
  have c2 := Lm.recs_few (a ++ b)
  rw [List.length_append] at c2
  have a3 := Lm.recs_many a
  have a4 := Lm.recs_many b
  have hz : a.length + b.length ≤ 9223372036854775807 := by omega
  have K : ¬ (Lm.body (Lm.recsL a)).length < a.length → Lm.recsL (a ++ b) = Lm.recsL a ++ Lm.recsL b ∧ (Lm.body (Lm.recsL (a ++ b))).length = (Lm.body (Lm.recsL a)).length + (Lm.body (Lm.recsL b)).length := fun h => by
    have h1 : Lm.leftL a = [] := List.length_eq_zero_iff.1 (by have := (congrArg List.length (Lm.scan_parts a).1); rw [List.length_append] at this; omega)
    refine ⟨j3 h1, ?_⟩
    rw [j3 h1, Lm.body_append, List.length_append]
  obtain ⟨RA, hRA⟩ : ∃ x, Lm.recsL a = x := ⟨_, rfl⟩
  obtain ⟨RB, hRB⟩ : ∃ x, Lm.recsL b = x := ⟨_, rfl⟩
  obtain ⟨RC, hRC⟩ : ∃ x, Lm.recsL (a ++ b) = x := ⟨_, rfl⟩
  simp only [hRA, hRB, hRC] at *
  obtain ⟨na, hna⟩ : ∃ x, (Lm.body RA).length = x := ⟨_, rfl⟩
  obtain ⟨nb, hnb⟩ : ∃ x, (Lm.body RB).length = x := ⟨_, rfl⟩
  obtain ⟨nc, hnc⟩ : ∃ x, (Lm.body RC).length = x := ⟨_, rfl⟩
  simp only [hna, hnb, hnc] at *
  have k1 : na ≤ a.length := a3.1
  have k2 : nb ≤ b.length := a4.1
  have HK := Lib.hid K
  have HC := Lib.hid c1
  have HA := Lib.hid a1
  have HB := Lib.hid b1
  clear j1 j3 a3 a4 K a1 b1 c1 hRA hRB hRC hna hnb hnc
  go_enter Try.func7, Try.ntmps7
  go_wp2_with fail
  refine (shown16_any _).mono ?_
  rintro e w_1 ⟨rfl, b_1⟩
  have B1 := (Below.refl w.heap.size w).trans (b_1.mono (Below.refl w.heap.size w).size)
  clear b_1
  go_wp2_with fail
  refine (C1 _).mono ?_
  rintro e w_2 ⟨v1, rfl, b_2, R_a⟩
  have B2 := B1.trans (b_2.mono B1.size)
  clear B1
  clear b_2
  go_wp2_with fail
  refine (C2 _).mono ?_
  rintro e w_3 ⟨v2, rfl, b_3, R_b⟩
  replace R_a := R_a.below b_3
  have B3 := B2.trans (b_3.mono B2.size)
  clear B2
  clear b_3
  go_wp2_with fail
  refine (C3 _).mono ?_
  rintro e w_4 ⟨v3, rfl, b_4, R_c⟩
  replace R_a := R_a.below b_4
  replace R_b := R_b.below b_4
  have B4 := B3.trans (b_4.mono B3.size)
  clear B3
  clear b_4
  obtain ⟨p1, q1, rfl, _⟩ := R_a.len
  obtain ⟨p2, q2, rfl, _⟩ := R_b.len
  obtain ⟨p3, q3, rfl, _⟩ := R_c.len
  by_cases h : na < a.length
  · have h1 : (na : Int) < (a.length : Int) := by omega
    have h2 : (RA.length : Int) ≤ (RC.length : Int) := by omega
    have h3 : (na : Int) ≤ (nc : Int) := by omega
    clear R_a R_b R_c
    go_wp2_with fail
    go_ret
    exact ⟨rfl, B4⟩
  · have h1 : ¬ (na : Int) < (a.length : Int) := by omega
    obtain ⟨e1, e2⟩ := HK.out h
    have HE := Lib.hid e1
    have hn : wrap64 ((na : Int) + (nb : Int)) = (nc : Int) := by unfold wrap64; omega
    have hq : ((nc : Int) == (na : Int) + (nb : Int)) = true := by rw [beq_iff_eq]; omega
    clear e1 e2
    have HRc := Lib.hid R_c
    have HRb := Lib.hid R_b
    have HRa := Lib.hid R_a
    clear R_a R_b R_c
    go_wp2_with (at_builtin; refine app16 rfl _ _ rfl w_4.heap.size _ [] rfl (Row16.empty w_4) _ _ RA rfl (HRa.out.alloc _) (by simp; omega) (by simp) ?_)
    intro v4 W4 h4 g4
    have T4 : Below w_4.heap.size w_4 W4 := ((Below.refl _ w_4).alloc (Nat.le_refl _) _).grown g4 (by simp) (fun j ej => ((Row16.empty w_4).lt j ej).1)
    have Z4 := T4.size
    go_wp2_with (at_builtin; refine app16 rfl _ _ rfl w_4.heap.size _ RA rfl h4 _ _ RB rfl (HRb.out.below T4) (by omega) Z4 ?_)
    intro v5 W5 h5 g5
    have T5 := T4.grown g5 T4.size (fun j ej => (h4.lt j ej).1)
    have D := same_txt _ _ RC (RA ++ RB) W5 ((HRc.out.txt (by omega) HC.out).below T5) (h5.txt (by rw [List.length_append]; omega) (fun t ht => by rcases List.mem_append.1 ht with ht | ht; exact HA.out t ht; exact HB.out t ht))
    rw [decide_eq_true HE.out] at D
    have BZ := B4.trans (T5.mono B4.size)
    clear h5 g5 T4 T5 h4 g4
    go_wp2_with fail
    refine D.mono ?_
    rintro e W6 ⟨rfl, b6⟩
    have BY := BZ.trans (b6.mono BZ.size)
    clear D
    go_wp2_with fail
    go_ret
    exact ⟨rfl, BY⟩
end Go.Proofs.Ytlaidbaghjlpfaa
