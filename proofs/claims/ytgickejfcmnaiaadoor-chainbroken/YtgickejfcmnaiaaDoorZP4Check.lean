/-
  What chain.Check answers, of whatever links.
-/
import Derived.Test.YtgickejfcmnaiaaDoorZP4Small
import Derived.Test.YtgickejfcmnaiaaDoorZChainN
import Derived.Test.YtgickejfcmnaiaaDoorGH
import Derived.Test.YtgickejfcmnaiaaDoorZR4Check
import Derived.StillTailTactics
namespace Go.Proofs.YtgickejfcmnaiaaDoor
set_option maxRecDepth 100000
open Go.RowKit
set_option linter.unusedVariables false
attribute [local go_sem] ba_size
set_option maxHeartbeats 1000000 in
theorem pcheck_any (L : List Lk) (v : Value) (h : List UInt8) (w : World) (hG : G w) (hT : IsLnk w v L) :
    Calls Tryd.prog 24 #[v, .string ⟨h.toArray⟩] w fun e w' => e = .returned (.int .i64 (ckL sumL L h : Int)) ∧ Below w.heap.size w w' := by
  have hg3 := hG.size
  have hbd := hT.bound
  obtain ⟨a, cap, rfl, h1, h2, h3, HC⟩ := hT.some_at
  obtain ⟨n, hn⟩ : ∃ n, L.length = n := ⟨_, rfl⟩
  have HN : Hid (L.length = n) := hn
  rw [hn] at h1 h3 ⊢
  obtain ⟨O, hO⟩ : ∃ O, ckL sumL L h = O := ⟨_, rfl⟩
  have H0 : Hid (ckF sumL h [] (L.drop 0) = O) := hO
  rw [hO]
  clear hT hn hO
  go_enter Tryd.func24, Tryd.ntmps24
  go_wp2_with fail
  go_loopw [5, 11] (fun pv i wr => ∃ (k : Nat) (p : List UInt8), k ≤ n ∧ p.length ≤ 32 ∧ pv = .string ⟨p.toArray⟩ ∧ i = .int .i64 k ∧ Hid (ckF sumL h p (L.drop k) = O) ∧ Below w.heap.size w wr) (fun _ i _ => n - (intOf i).toNat)
  case atStart => exact ⟨0, [], Nat.zero_le _, by simp, rfl, rfl, H0, Below.refl _ _⟩
  case round =>
    obtain ⟨k, p, hk, hp, rfl, rfl, HJ, hbw⟩ := hrel
    by_cases hlt : k < n
    · have hk1 : k < L.length := by have := HN.out; omega
      obtain ⟨bb, off, rfl, hblt, hcell1, hcell2⟩ := HC.out k hk1
      have c0 : wr.cell? ⟨bb, off + k * 2, none⟩ = some (.string ⟨L[k].1.toArray⟩) := (hbw.cell (p := ⟨bb, off + k * 2, none⟩) hblt).trans hcell1
      have c1 : wr.cell? ⟨bb, off + k * 2 + 1, none⟩ = some (.string ⟨L[k].2.toArray⟩) := (hbw.cell (p := ⟨bb, off + k * 2 + 1, none⟩) hblt).trans hcell2
      have hJ := HJ.out
      rw [ckF_drop sumL h p L k hk1] at hJ
      have hsb := hbd _ (List.getElem_mem hk1)
      obtain ⟨x, hx⟩ : ∃ x, L[k].1 = x := ⟨_, rfl⟩
      obtain ⟨b, hb⟩ : ∃ b, L[k].2 = b := ⟨_, rfl⟩
      rw [hx] at c0 hJ hsb
      rw [hb] at c1 hJ hsb
      clear hx hb hcell1 hcell2 HJ
      have hGr : G wr.drew := hG.below hbw.drew hg3
      have hlr : bb < wr.drew.heap.size := Nat.lt_of_lt_of_le hblt hbw.size
      have hNx := pnext_any x b (by omega) (by omega) wr.drew hGr
      by_cases hxp : x = p
      · subst hxp
        have heb : (x == x) = true := beq_self_eq_true x
        rw [if_neg (fun h => h rfl)] at hJ
        by_cases hbig : bigB x b
        · rw [nextL_no sumL x b hbig] at hNx
          rw [if_pos hbig] at hJ
          subst hJ
          go_wp2_with fail
          refine wp_region_any (by kernel_rfl) ?_
          change wpAny _ _ _ _ _ _ _ (World.drew _)
          refine wpAny_take (i := 0) (v := .slice (some ⟨bb, off, none⟩) n cap) rfl (by kernel_rfl) (by kernel_rfl) (by kernel_rfl) (fun _ _ _ h => h) (Or.inl ⟨by rfl, fun w => by go_simp⟩) ?_
          refine wpAny_take (i := 1) (v := .int .i64 k) rfl (by kernel_rfl) (by kernel_rfl) (by kernel_rfl) (fun _ _ _ h => h) (Or.inl ⟨by rfl, fun w => by go_simp⟩) ?_
          refine wpAny_take (i := 2) (v := .pointer (some ⟨bb, off + k * 2, none⟩)) rfl (by kernel_rfl) (by kernel_rfl) (by kernel_rfl) (fun _ _ _ h => h) (Or.inl ⟨by rfl, fun w => by go_simp⟩) ?_
          refine wpAny_take (i := 3) (v := .pointer (some ⟨bb, off + k * 2, none⟩)) rfl (by kernel_rfl) (by kernel_rfl) (by kernel_rfl) (fun _ _ _ h => h) (Or.inl ⟨by rfl, fun w => by go_simp⟩) ?_
          refine wpAny_take (i := 5) (v := .slice (some ⟨bb, off, none⟩) n cap) rfl (by kernel_rfl) (by kernel_rfl) (by kernel_rfl) (fun _ _ _ h => h) (Or.inl ⟨by rfl, fun w => by go_simp⟩) ?_
          refine wpAny_take (i := 6) (v := .int .i64 k) rfl (by kernel_rfl) (by kernel_rfl) (by kernel_rfl) (fun _ _ _ h => h) (Or.inl ⟨by rfl, fun w => by go_simp⟩) ?_
          refine wpAny_take (i := 7) (v := .pointer (some ⟨bb, off + k * 2, none⟩)) rfl (by kernel_rfl) (by kernel_rfl) (by kernel_rfl) (fun _ _ _ h => h) (Or.inl ⟨by rfl, fun w => by go_simp⟩) ?_
          refine wpAny_take (i := 8) (v := .pointer (some ⟨bb, off + k * 2 + 1, none⟩)) rfl (by kernel_rfl) (by kernel_rfl) (by kernel_rfl) (fun _ _ _ h => h) (Or.inl ⟨by rfl, fun w => by go_simp⟩) ?_
          refine any_of_C (C := fun V => V.cell? ⟨bb, off + k * 2, none⟩ = some (.string ⟨x.toArray⟩) ∧ V.cell? ⟨bb, off + k * 2 + 1, none⟩ = some (.string ⟨b.toArray⟩)) 10 _ _ _ _ ?_
          refine takeC (i := 4) (v := .string ⟨x.toArray⟩) rfl (by kernel_rfl) (by kernel_rfl) (by kernel_rfl) (by kernel_rfl) (by kernel_rfl) (fun _ _ _ h => h) (Or.inl ⟨by rfl, fun V hV => by obtain ⟨g0, g1⟩ := hV; go_simp⟩) ?_
          refine takeC (i := 9) (v := .string ⟨b.toArray⟩) rfl (by kernel_rfl) (by kernel_rfl) (by kernel_rfl) (by kernel_rfl) (by kernel_rfl) (fun _ _ _ h => h) (Or.inl ⟨by rfl, fun V hV => by obtain ⟨g0, g1⟩ := hV; go_simp⟩) ?_
          refine lastC (by kernel_rfl) (by kernel_rfl) ⟨c0, c1⟩ (of_decide_eq_true (by kernel_rfl)) ?_
          refine wpAny_ready (rs := [10]) (by kernel_rfl) (by simp) ?_
          refine AllReady.cons rfl (fun K hK => ?_) AllReady.nil
          go_simp
          refine hNx.mono ?_
          rintro e w1 ⟨rfl, hb1⟩
          have d0 : w1.cell? ⟨bb, off + k * 2, none⟩ = some (.string ⟨x.toArray⟩) := (hb1.cell (p := ⟨bb, off + k * 2, none⟩) hlr).trans c0
          have hB1 : Below w.heap.size w w1 := hbw.drew.trans (hb1.mono hbw.size)
          refine hK _ _ ?_
          clear hK K
          refine wpAny_take (i := 11) (v := .tuple #[.string ⟨#[]⟩, .int .i64 4]) rfl (by kernel_rfl) (by kernel_rfl) (by kernel_rfl) (fun _ _ _ h => h) (Or.inl ⟨by rfl, fun w => by go_simp⟩) ?_
          refine wpAny_take (i := 12) (v := .string ⟨#[]⟩) rfl (by kernel_rfl) (by kernel_rfl) (by kernel_rfl) (fun _ _ _ h => h) (Or.inl ⟨by rfl, fun w => by go_simp⟩) ?_
          refine wpAny_take (i := 13) (v := .int .i64 4) rfl (by kernel_rfl) (by kernel_rfl) (by kernel_rfl) (fun _ _ _ h => h) (Or.inl ⟨by rfl, fun w => by go_simp⟩) ?_
          refine any_seqI [14, 15] [_, _] _ _ _ rfl (by kernel_rfl) ?_
          go_wp2_with fail
          go_ret
          exact ⟨rfl, hB1⟩
        · rw [nextL_is sumL x b hbig] at hNx
          rw [if_neg hbig] at hJ
          have l32 := sumL_32 (cinL x b)
          obtain ⟨q, hq⟩ : ∃ q, sumL (cinL x b) = q := ⟨_, rfl⟩
          rw [hq] at hNx hJ l32
          have HJ' : Hid (ckF sumL h q (L.drop (k + 1)) = O) := hJ
          have hq32 : q.length ≤ 32 := by omega
          clear hJ hq l32 hbig
          go_wp2_with fail
          refine wp_region_any (by kernel_rfl) ?_
          change wpAny _ _ _ _ _ _ _ (World.drew _)
          refine wpAny_take (i := 0) (v := .slice (some ⟨bb, off, none⟩) n cap) rfl (by kernel_rfl) (by kernel_rfl) (by kernel_rfl) (fun _ _ _ h => h) (Or.inl ⟨by rfl, fun w => by go_simp⟩) ?_
          refine wpAny_take (i := 1) (v := .int .i64 k) rfl (by kernel_rfl) (by kernel_rfl) (by kernel_rfl) (fun _ _ _ h => h) (Or.inl ⟨by rfl, fun w => by go_simp⟩) ?_
          refine wpAny_take (i := 2) (v := .pointer (some ⟨bb, off + k * 2, none⟩)) rfl (by kernel_rfl) (by kernel_rfl) (by kernel_rfl) (fun _ _ _ h => h) (Or.inl ⟨by rfl, fun w => by go_simp⟩) ?_
          refine wpAny_take (i := 3) (v := .pointer (some ⟨bb, off + k * 2, none⟩)) rfl (by kernel_rfl) (by kernel_rfl) (by kernel_rfl) (fun _ _ _ h => h) (Or.inl ⟨by rfl, fun w => by go_simp⟩) ?_
          refine wpAny_take (i := 5) (v := .slice (some ⟨bb, off, none⟩) n cap) rfl (by kernel_rfl) (by kernel_rfl) (by kernel_rfl) (fun _ _ _ h => h) (Or.inl ⟨by rfl, fun w => by go_simp⟩) ?_
          refine wpAny_take (i := 6) (v := .int .i64 k) rfl (by kernel_rfl) (by kernel_rfl) (by kernel_rfl) (fun _ _ _ h => h) (Or.inl ⟨by rfl, fun w => by go_simp⟩) ?_
          refine wpAny_take (i := 7) (v := .pointer (some ⟨bb, off + k * 2, none⟩)) rfl (by kernel_rfl) (by kernel_rfl) (by kernel_rfl) (fun _ _ _ h => h) (Or.inl ⟨by rfl, fun w => by go_simp⟩) ?_
          refine wpAny_take (i := 8) (v := .pointer (some ⟨bb, off + k * 2 + 1, none⟩)) rfl (by kernel_rfl) (by kernel_rfl) (by kernel_rfl) (fun _ _ _ h => h) (Or.inl ⟨by rfl, fun w => by go_simp⟩) ?_
          refine any_of_C (C := fun V => V.cell? ⟨bb, off + k * 2, none⟩ = some (.string ⟨x.toArray⟩) ∧ V.cell? ⟨bb, off + k * 2 + 1, none⟩ = some (.string ⟨b.toArray⟩)) 10 _ _ _ _ ?_
          refine takeC (i := 4) (v := .string ⟨x.toArray⟩) rfl (by kernel_rfl) (by kernel_rfl) (by kernel_rfl) (by kernel_rfl) (by kernel_rfl) (fun _ _ _ h => h) (Or.inl ⟨by rfl, fun V hV => by obtain ⟨g0, g1⟩ := hV; go_simp⟩) ?_
          refine takeC (i := 9) (v := .string ⟨b.toArray⟩) rfl (by kernel_rfl) (by kernel_rfl) (by kernel_rfl) (by kernel_rfl) (by kernel_rfl) (fun _ _ _ h => h) (Or.inl ⟨by rfl, fun V hV => by obtain ⟨g0, g1⟩ := hV; go_simp⟩) ?_
          refine lastC (by kernel_rfl) (by kernel_rfl) ⟨c0, c1⟩ (of_decide_eq_true (by kernel_rfl)) ?_
          refine wpAny_ready (rs := [10]) (by kernel_rfl) (by simp) ?_
          refine AllReady.cons rfl (fun K hK => ?_) AllReady.nil
          go_simp
          refine hNx.mono ?_
          rintro e w1 ⟨rfl, hb1⟩
          have d0 : w1.cell? ⟨bb, off + k * 2, none⟩ = some (.string ⟨x.toArray⟩) := (hb1.cell (p := ⟨bb, off + k * 2, none⟩) hlr).trans c0
          have hB1 : Below w.heap.size w w1 := hbw.drew.trans (hb1.mono hbw.size)
          refine hK _ _ ?_
          clear hK K
          refine wpAny_take (i := 11) (v := .tuple #[.string ⟨q.toArray⟩, .int .i64 0]) rfl (by kernel_rfl) (by kernel_rfl) (by kernel_rfl) (fun _ _ _ h => h) (Or.inl ⟨by rfl, fun w => by go_simp⟩) ?_
          refine wpAny_take (i := 12) (v := .string ⟨q.toArray⟩) rfl (by kernel_rfl) (by kernel_rfl) (by kernel_rfl) (fun _ _ _ h => h) (Or.inl ⟨by rfl, fun w => by go_simp⟩) ?_
          refine wpAny_take (i := 13) (v := .int .i64 0) rfl (by kernel_rfl) (by kernel_rfl) (by kernel_rfl) (fun _ _ _ h => h) (Or.inl ⟨by rfl, fun w => by go_simp⟩) ?_
          refine any_seqI [14, 15] [_, _] _ _ _ rfl (by kernel_rfl) ?_
          go_wp2_with fail
          go_roundw
          case rel => exact ⟨k + 1, q, by omega, hq32, rfl, by first | go_num | simp, HJ', hB1⟩
          case measure => simp [intOf]; omega
      · have heb : (x == p) = false := beq_eq_false_iff_ne.2 hxp
        rw [if_pos hxp] at hJ
        subst hJ
        clear hxp
        obtain ⟨R, hR⟩ : ∃ R, nextL sumL x b = R := ⟨_, rfl⟩
        rw [hR] at hNx
        clear hR
        go_wp2_with fail
        refine wp_region_any (by kernel_rfl) ?_
        change wpAny _ _ _ _ _ _ _ (World.drew _)
        refine wpAny_take (i := 0) (v := .slice (some ⟨bb, off, none⟩) n cap) rfl (by kernel_rfl) (by kernel_rfl) (by kernel_rfl) (fun _ _ _ h => h) (Or.inl ⟨by rfl, fun w => by go_simp⟩) ?_
        refine wpAny_take (i := 1) (v := .int .i64 k) rfl (by kernel_rfl) (by kernel_rfl) (by kernel_rfl) (fun _ _ _ h => h) (Or.inl ⟨by rfl, fun w => by go_simp⟩) ?_
        refine wpAny_take (i := 2) (v := .pointer (some ⟨bb, off + k * 2, none⟩)) rfl (by kernel_rfl) (by kernel_rfl) (by kernel_rfl) (fun _ _ _ h => h) (Or.inl ⟨by rfl, fun w => by go_simp⟩) ?_
        refine wpAny_take (i := 3) (v := .pointer (some ⟨bb, off + k * 2, none⟩)) rfl (by kernel_rfl) (by kernel_rfl) (by kernel_rfl) (fun _ _ _ h => h) (Or.inl ⟨by rfl, fun w => by go_simp⟩) ?_
        refine wpAny_take (i := 5) (v := .slice (some ⟨bb, off, none⟩) n cap) rfl (by kernel_rfl) (by kernel_rfl) (by kernel_rfl) (fun _ _ _ h => h) (Or.inl ⟨by rfl, fun w => by go_simp⟩) ?_
        refine wpAny_take (i := 6) (v := .int .i64 k) rfl (by kernel_rfl) (by kernel_rfl) (by kernel_rfl) (fun _ _ _ h => h) (Or.inl ⟨by rfl, fun w => by go_simp⟩) ?_
        refine wpAny_take (i := 7) (v := .pointer (some ⟨bb, off + k * 2, none⟩)) rfl (by kernel_rfl) (by kernel_rfl) (by kernel_rfl) (fun _ _ _ h => h) (Or.inl ⟨by rfl, fun w => by go_simp⟩) ?_
        refine wpAny_take (i := 8) (v := .pointer (some ⟨bb, off + k * 2 + 1, none⟩)) rfl (by kernel_rfl) (by kernel_rfl) (by kernel_rfl) (fun _ _ _ h => h) (Or.inl ⟨by rfl, fun w => by go_simp⟩) ?_
        refine any_of_C (C := fun V => V.cell? ⟨bb, off + k * 2, none⟩ = some (.string ⟨x.toArray⟩) ∧ V.cell? ⟨bb, off + k * 2 + 1, none⟩ = some (.string ⟨b.toArray⟩)) 10 _ _ _ _ ?_
        refine takeC (i := 4) (v := .string ⟨x.toArray⟩) rfl (by kernel_rfl) (by kernel_rfl) (by kernel_rfl) (by kernel_rfl) (by kernel_rfl) (fun _ _ _ h => h) (Or.inl ⟨by rfl, fun V hV => by obtain ⟨g0, g1⟩ := hV; go_simp⟩) ?_
        refine takeC (i := 9) (v := .string ⟨b.toArray⟩) rfl (by kernel_rfl) (by kernel_rfl) (by kernel_rfl) (by kernel_rfl) (by kernel_rfl) (fun _ _ _ h => h) (Or.inl ⟨by rfl, fun V hV => by obtain ⟨g0, g1⟩ := hV; go_simp⟩) ?_
        refine lastC (by kernel_rfl) (by kernel_rfl) ⟨c0, c1⟩ (of_decide_eq_true (by kernel_rfl)) ?_
        refine wpAny_ready (rs := [10]) (by kernel_rfl) (by simp) ?_
        refine AllReady.cons rfl (fun K hK => ?_) AllReady.nil
        go_simp
        refine hNx.mono ?_
        rintro e w1 ⟨rfl, hb1⟩
        have d0 : w1.cell? ⟨bb, off + k * 2, none⟩ = some (.string ⟨x.toArray⟩) := (hb1.cell (p := ⟨bb, off + k * 2, none⟩) hlr).trans c0
        have hB1 : Below w.heap.size w w1 := hbw.drew.trans (hb1.mono hbw.size)
        refine hK _ _ ?_
        clear hK K
        refine wpAny_take (i := 11) (v := .tuple #[.string ⟨R.1.toArray⟩, .int .i64 R.2]) rfl (by kernel_rfl) (by kernel_rfl) (by kernel_rfl) (fun _ _ _ h => h) (Or.inl ⟨by rfl, fun w => by go_simp⟩) ?_
        refine wpAny_take (i := 12) (v := .string ⟨R.1.toArray⟩) rfl (by kernel_rfl) (by kernel_rfl) (by kernel_rfl) (fun _ _ _ h => h) (Or.inl ⟨by rfl, fun w => by go_simp⟩) ?_
        refine wpAny_take (i := 13) (v := .int .i64 R.2) rfl (by kernel_rfl) (by kernel_rfl) (by kernel_rfl) (fun _ _ _ h => h) (Or.inl ⟨by rfl, fun w => by go_simp⟩) ?_
        refine any_seqI [14, 15] [_, _] _ _ _ rfl (by kernel_rfl) ?_
        go_wp2_with fail
        go_ret
        exact ⟨rfl, hB1⟩
    · have hJ := HJ.out
      rw [List.drop_eq_nil_of_le (by have := HN.out; omega), ckF] at hJ
      clear HJ
      by_cases hph : p = h
      · subst hph
        have heb : (p == p) = true := beq_self_eq_true p
        rw [if_pos rfl] at hJ
        subst hJ
        go_wp2_with fail
        go_ret
        exact ⟨rfl, hbw⟩
      · have heb : (p == h) = false := beq_eq_false_iff_ne.2 hph
        rw [if_neg hph] at hJ
        subst hJ
        clear hph
        go_wp2_with fail
        go_ret
        exact ⟨rfl, hbw⟩
end Go.Proofs.YtgickejfcmnaiaaDoor
