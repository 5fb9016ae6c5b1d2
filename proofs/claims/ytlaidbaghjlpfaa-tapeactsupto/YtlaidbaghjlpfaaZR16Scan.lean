/-
  What cartoucheref16.Scan answers.
-/
import Derived.Test.YtlaidbaghjlpfaaGS
import Derived.Test.YtlaidbaghjlpfaaGK
namespace Go.Proofs.Ytlaidbaghjlpfaa
set_option maxRecDepth 100000
open Go.RowKit
set_option linter.unusedVariables false
attribute [local go_sem] ba_size ba_extract take_drop_end
set_option maxHeartbeats 2000000 in
theorem rscan16_any (s : List UInt8) (hs : s.length ≤ 8796093021952) (w : World) :
    Calls Try.prog 17 #[.string ⟨s.toArray⟩] w fun e w' => ScanRes w s e w' := by
  have hfew := Lm.recs_few s
  obtain ⟨i0, hi, hz0, hz1, hz2⟩ := info_parts str_info
  unfold ScanRes
  go_enter Try.func17, Try.ntmps17
  go_wp2_with fail
  go_loopw [4, 5] (fun r i wr => ∃ a x, i = .int .i64 (((Lm.body a).length : Nat) : Int) ∧ Lm.At16 s a x ∧ Below w.heap.size w wr ∧ wr.ownsRow w.heap.size 9 1 r a.length (strV a)) (fun _ i _ => s.length - (intOf i).toNat)
  case atStart => exact ⟨[], s, rfl, Lm.at_start s, Below.refl _ _, World.ownsRow_nil _ _ _ _⟩
  case round =>
    obtain ⟨a, x, rfl, hA, hbw, hrow⟩ := hrel
    have hl := Lm.at_len hA
    obtain ⟨c, hc⟩ : ∃ c, (Lm.body a).length = c := ⟨_, rfl⟩
    have hx : x = s.drop c := by rw [← hA.1, ← hc, List.drop_left]
    subst hx
    have C := fun W => refTakeText_any (s.drop c) 65535 W (by omega)
    rw [hc] at hl ⊢
    have c1 : c ≤ s.length := by omega
    have c2 : (c : Int) ≤ (s.length : Int) := by omega
    by_cases ht : (Lm.takeTextL (s.drop c) 65535).2.2 = 0
    · obtain ⟨n1, n2, n3, n4⟩ := Lm.at_next hA ht
      obtain ⟨⟨t, x', e⟩, hy⟩ : ∃ y, Lm.takeTextL (s.drop c) 65535 = y := ⟨_, rfl⟩
      rw [hy] at n1 n2 n3 ht C
      simp only at n1 n2 n3 ht C
      subst ht
      have hb1 := Lm.body_one a t
      obtain ⟨N, hN⟩ : ∃ N : Nat, (Lm.body a).length + (Lm.lenL t.length ++ t).length = N := ⟨_, rfl⟩
      rw [hN] at n3 hb1
      have z1 : wrap64 ((s.length : Int) - (x'.length : Int)) = (N : Int) := by rw [n3]; unfold wrap64; omega
      have HN : Hid ((Lm.body (a ++ [t])).length = N) := hb1
      have hNc : c < N ∧ c < s.length ∧ N ≤ s.length := by
        have e2 := (Lm.at_len n1).2.1
        have e3 := (Lm.at_len n1).1
        have := Lm.lenL_pos t.length
        simp only [List.length_drop] at n2
        rw [List.length_append] at hN
        omega
      have HM : Hid (c < N ∧ c < s.length ∧ N ≤ s.length) := hNc
      have HA : Hid (Lm.At16 s (a ++ [t]) x') := n1
      have HV : Hid (strV (a ++ [t]) = strV a ++ [.string ⟨t.toArray⟩] ∧ (a ++ [t]).length = a.length + 1) := ⟨strV_snoc a t, by simp⟩
      have hal : a.length + 1 ≤ s.length := by omega
      clear hy n1 n2 n3 n4 hN hb1 hA hNc
      clear hl
      go_wp2_with fail
      refine (C _).mono ?_
      rintro e w1 ⟨rfl, b1⟩
      have B1 := bel_trans hbw b1
      have hrow1 := owns_below hrow b1
      go_wp2_with (at_builtin; refine wpList_append_own _ rfl _ _ 36 rfl w.heap.size 9 i0 (.string ByteArray.empty) 1 16 Try.underlying36 hi hz0 hz1 hz2 rfl (by decide) _ _ _ rfl (hrow1.alloc _) ⟨w1.heap.size, 0, none⟩ 1 1 [.string ⟨t.toArray⟩] rfl rfl ?d1 ?d2 ?d3 ?d4 ?d5 ?_)
      case d1 =>
        intro j u hj
        match j, hj with
        | 0, hj => simp at hj; subst hj; simp [Addr.add]
      case d2 => intro u hu; simp at hu; subst hu; rfl
      case d3 => unfold maxLen; omega
      case d4 => omega
      case d5 => have := B1.size; simp; omega
      intro v' w2 hown2 hgrow2 _
      have B2 : Below w.heap.size w w2 := (B1.alloc B1.size _).grown hgrow2 (by have := B1.size; simp; omega) (fun j hj => (hrow1.lt j hj).1)
      go_wp2_with fail
      go_roundw
      case rel => exact ⟨a ++ [t], x', by rw [HN.out, z1], HA.out, B2, by rw [HV.out.1, HV.out.2]; exact hown2⟩
      case measure => have := HM.out; simp [intOf, z1]; omega
    · have hE := Lm.at_end hA ht
      obtain ⟨⟨t, x', e⟩, hy⟩ : ∃ y, Lm.takeTextL (s.drop c) 65535 = y := ⟨_, rfl⟩
      rw [hy] at ht C
      simp only at ht C
      have hb : ((e : Int) != 0) = true := by simp; omega
      have HE : Hid (Lm.recsL s = a) := hE
      have HC : Hid ((Lm.body a).length = c) := hc
      clear hy hA hE hl ht hc
      go_wp2_with fail
      refine (C _).mono ?_
      rintro e w1 ⟨rfl, b1⟩
      go_wp2_with fail
      go_ret2
      rw [HE.out, HC.out]
      exact ⟨_, rfl, bel_trans hbw b1, owns_below hrow b1⟩
end Go.Proofs.Ytlaidbaghjlpfaa
