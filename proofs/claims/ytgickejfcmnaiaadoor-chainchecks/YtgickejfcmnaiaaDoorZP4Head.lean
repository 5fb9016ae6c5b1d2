/-
  What chain.Head answers, of whatever bodies.
-/
import Derived.Test.YtgickejfcmnaiaaDoorZP4Small
import Derived.Test.YtgickejfcmnaiaaDoorGB
import Derived.Test.YtgickejfcmnaiaaDoorGK
import Derived.Test.YtgickejfcmnaiaaDoorZChainN
namespace Go.Proofs.YtgickejfcmnaiaaDoor
set_option maxRecDepth 100000
open Go.RowKit
set_option linter.unusedVariables false
attribute [local go_sem] ba_size
set_option maxHeartbeats 1000000 in
theorem phead_any (ss : List (List UInt8)) (v : Value) (w : World) (hG : G w) (hT : IsTxt w v ss) :
    Calls Tryd.prog 17 #[v] w fun e w' => e = .returned (.tuple #[.string ⟨(headL sumL ss).1.toArray⟩, .int .i64 ((headL sumL ss).2 : Int)]) ∧ Below w.heap.size w w' := by
  have hg3 := hG.size
  have hbd := hT.bound
  obtain ⟨a, cap, rfl, h1, h2, h3, HC⟩ := hT.some_at
  obtain ⟨n, hn⟩ : ∃ n, ss.length = n := ⟨_, rfl⟩
  have HN : Hid (ss.length = n) := hn
  rw [hn] at h1 h3 ⊢
  obtain ⟨O, hO⟩ : ∃ O, headF sumL [] ss = O := ⟨_, rfl⟩
  have HR : Hid (headL sumL ss = headR O) := by
    show headL sumL ss = _
    rw [headL_R, hO]
  have H0 : Hid (headF sumL [] (ss.drop 0) = O) := hO
  clear hT hn hO
  go_enter Tryd.func17, Tryd.ntmps17
  go_wp2_with fail
  go_loopw [4, 10] (fun hd i wr => ∃ (k : Nat) (p : List UInt8), k ≤ n ∧ p.length ≤ 32 ∧ hd = .string ⟨p.toArray⟩ ∧ i = .int .i64 k ∧ Hid (headF sumL p (ss.drop k) = O) ∧ Below w.heap.size w wr) (fun _ i _ => n - (intOf i).toNat)
  case atStart => exact ⟨0, [], Nat.zero_le _, by simp, rfl, rfl, H0, Below.refl _ _⟩
  case round =>
    obtain ⟨k, p, hk, hp, rfl, rfl, HJ, hbw⟩ := hrel
    by_cases hlt : k < n
    · have hk1 : k < ss.length := by have := HN.out; omega
      obtain ⟨bb, off, rfl, hblt, hcell⟩ := HC.out k hk1
      have c0 : wr.cell? ⟨bb, off + k, none⟩ = some (.string ⟨ss[k].toArray⟩) := (hbw.cell (p := ⟨bb, off + k, none⟩) hblt).trans hcell
      have hJ := HJ.out
      rw [headF_drop sumL p ss k hk1] at hJ
      have hsb := hbd _ (List.getElem_mem hk1)
      have hNx := fun w1 h => pnext_any p ss[k] (by omega) (by omega) w1 h
      obtain ⟨b, hb⟩ : ∃ b, ss[k] = b := ⟨_, rfl⟩
      rw [hb] at c0 hJ hsb hNx
      clear hb hcell HJ
      by_cases hbig : bigB p b
      · rw [nextL_no sumL p b hbig] at hNx
        rw [if_pos hbig] at hJ
        subst hJ
        go_wp2_with fail
        refine (hNx _ (hG.below hbw hg3)).mono ?_
        rintro e w1 ⟨rfl, hb1⟩
        go_wp2_with fail
        go_ret2
        exact ⟨by rw [HR.out]; rfl, hbw.trans (hb1.mono hbw.size)⟩
      · rw [nextL_is sumL p b hbig] at hNx
        rw [if_neg hbig] at hJ
        have l32 := sumL_32 (cinL p b)
        obtain ⟨q, hq⟩ : ∃ q, sumL (cinL p b) = q := ⟨_, rfl⟩
        rw [hq] at hNx hJ l32
        have HJ' : Hid (headF sumL q (ss.drop (k + 1)) = O) := hJ
        have hq32 : q.length ≤ 32 := by omega
        clear hJ hq l32 hbig
        go_wp2_with fail
        refine (hNx _ (hG.below hbw hg3)).mono ?_
        rintro e w1 ⟨rfl, hb1⟩
        go_wp2_with fail
        go_roundw
        case rel => exact ⟨k + 1, q, by omega, hq32, rfl, by first | go_num | simp, HJ', hbw.trans (hb1.mono hbw.size)⟩
        case measure => simp [intOf]; omega
    · have HE : Hid (headL sumL ss = (p, 0)) := by
        have h := HJ.out
        rw [List.drop_eq_nil_of_le (by have := HN.out; omega), headF] at h
        show headL sumL ss = _
        rw [HR.out, ← h]; rfl
      clear HJ HR
      go_wp2_with fail
      go_ret2
      exact ⟨by rw [HE.out]; rfl, hbw⟩
end Go.Proofs.YtgickejfcmnaiaaDoor
