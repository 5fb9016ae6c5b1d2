/-
  What cartoucheref04.Check answers, of whatever links.
-/
import Derived.Test.YtgickejfcmnaiaaDoorZR4Small
import Derived.Test.YtgickejfcmnaiaaDoorZChainN
import Derived.Test.YtgickejfcmnaiaaDoorGH
namespace Go.Proofs.YtgickejfcmnaiaaDoor
set_option maxRecDepth 100000
open Go.RowKit
set_option linter.unusedVariables false
attribute [local go_sem] ba_size
theorem ckF_drop (sm : List UInt8 → List UInt8) (h p : List UInt8) (l : List Lk) (k : Nat) (hk : k < l.length) : ckF sm h p (l.drop k) = if l[k].1 ≠ p then 15 else if bigB p l[k].2 then 4 else ckF sm h (sm (cinL p l[k].2)) (l.drop (k + 1)) := by
  rw [List.drop_eq_getElem_cons hk, ckF]
set_option maxHeartbeats 1000000 in
theorem rcheck_any (L : List Lk) (v : Value) (h : List UInt8) (w : World) (hT : IsLnk w v L) :
    Calls Tryd.prog 25 #[v, .string ⟨h.toArray⟩] w fun e w' => e = .returned (.int .i64 (ckL sumL L h : Int)) ∧ Below w.heap.size w w' := by
  have hbd := hT.bound
  obtain ⟨a, cap, rfl, h1, h2, h3, HC⟩ := hT.some_at
  obtain ⟨n, hn⟩ : ∃ n, L.length = n := ⟨_, rfl⟩
  have HN : Hid (L.length = n) := hn
  rw [hn] at h1 h3 ⊢
  obtain ⟨O, hO⟩ : ∃ O, ckL sumL L h = O := ⟨_, rfl⟩
  have H0 : Hid (ckF sumL h [] (L.drop 0) = O) := hO
  rw [hO]
  clear hT hn hO
  go_enter Tryd.func25, Tryd.ntmps25
  go_wp2_with fail
  go_loopw [5, 6] (fun pv i wr => ∃ (k : Nat) (p : List UInt8), k ≤ n ∧ p.length ≤ 32 ∧ pv = .string ⟨p.toArray⟩ ∧ i = .int .i64 k ∧ Hid (ckF sumL h p (L.drop k) = O) ∧ Below w.heap.size w wr) (fun _ i _ => n - (intOf i).toNat)
  case atStart => exact ⟨0, [], Nat.zero_le _, by simp, rfl, rfl, H0, Below.refl _ _⟩
  case round =>
    obtain ⟨k, p, hk, hp, rfl, rfl, HJ, hbw⟩ := hrel
    by_cases hlt : k < n
    · have hk1 : k < L.length := by have := HN.out; omega
      obtain ⟨bb, off, rfl, hblt, hcell1, hcell2⟩ := HC.out k hk1
      have c0 : wr.cell? ⟨bb, off + k * 2, none⟩ = some (.string ⟨L[k].1.toArray⟩) := (hbw.cell (p := ⟨bb, off + k * 2, none⟩) hblt).trans hcell1
      have c1 : wr.cell? ⟨bb, off + k * 2 + 1, none⟩ = some (.string ⟨L[k].2.toArray⟩) := (hbw.cell (p := ⟨bb, off + k * 2 + 1, none⟩) hblt).trans hcell2
      have hJ := HJ.out
      rw [ckF_drop sumL h p L k hk1] at hJ
      have hsb := hbd _ (List.getElem_mem hk1)
      obtain ⟨x, hx⟩ : ∃ x, L[k].1 = x := ⟨_, rfl⟩
      obtain ⟨b, hb⟩ : ∃ b, L[k].2 = b := ⟨_, rfl⟩
      rw [hx] at c0 hJ hsb
      rw [hb] at c1 hJ hsb
      clear hx hb hcell1 hcell2 HJ
      by_cases hxp : x = p
      · subst hxp
        have heb : (x == x) = true := beq_self_eq_true x
        rw [if_neg (fun h => h rfl)] at hJ
        have hNx := fun w1 => rnext_any x b (by omega) (by omega) w1
        by_cases hbig : bigB x b
        · rw [nextL_no sumL x b hbig] at hNx
          rw [if_pos hbig] at hJ
          subst hJ
          go_wp2_with fail
          refine (hNx _).mono ?_
          rintro e w1 ⟨rfl, hb1⟩
          go_wp2_with fail
          go_ret
          exact ⟨rfl, hbw.trans (hb1.mono hbw.size)⟩
        · rw [nextL_is sumL x b hbig] at hNx
          rw [if_neg hbig] at hJ
          have l32 := sumL_32 (cinL x b)
          obtain ⟨q, hq⟩ : ∃ q, sumL (cinL x b) = q := ⟨_, rfl⟩
          rw [hq] at hNx hJ l32
          have HJ' : Hid (ckF sumL h q (L.drop (k + 1)) = O) := hJ
          have hq32 : q.length ≤ 32 := by omega
          clear hJ hq l32 hbig
          go_wp2_with fail
          refine (hNx _).mono ?_
          rintro e w1 ⟨rfl, hb1⟩
          go_wp2_with fail
          go_roundw
          case rel => exact ⟨k + 1, q, by omega, hq32, rfl, by first | go_num | simp, HJ', hbw.trans (hb1.mono hbw.size)⟩
          case measure => simp [intOf]; omega
      · have heb : (x == p) = false := beq_eq_false_iff_ne.2 hxp
        rw [if_pos hxp] at hJ
        subst hJ
        clear hxp
        go_wp2_with fail
        go_ret
        exact ⟨rfl, hbw⟩
    · have hJ := HJ.out
      rw [List.drop_eq_nil_of_le (by have := HN.out; omega), ckF] at hJ
      clear HJ
      by_cases hph : p = h
      · subst hph
        have heb : (p == p) = true := beq_self_eq_true p
        rw [if_pos rfl] at hJ
        subst hJ
        go_wp2_with fail
        go_ret
        exact ⟨rfl, hbw⟩
      · have heb : (p == h) = false := beq_eq_false_iff_ne.2 hph
        rw [if_neg hph] at hJ
        subst hJ
        clear hph
        go_wp2_with fail
        go_ret
        exact ⟨rfl, hbw⟩
end Go.Proofs.YtgickejfcmnaiaaDoor
