/-
  The walk of RingTurns.
-/
import Derived.Test.YtpfpkpaodlmlaaaZShown11
import Derived.Test.YtpfpkpaodlmlaaaZTurn11
import Derived.Test.YtpfpkpaodlmlaaaZJoin11
import Derived.Test.YtpfpkpaodlmlaaaZR11SameS
import Derived.Test.YtpfpkpaodlmlaaaGC
import Derived.Deep.RegionHeld3
import Derived.BigQuiet
import Derived.Deep.QuietTactic
import Derived.Lib.Hide
namespace Go.Proofs.Ytpfpkpaodlmlaaa
set_option maxRecDepth 100000
open Go.RowKit
set_option linter.unusedVariables false
attribute [local go_sem] ba_size ba_append ba_get ba_extract
set_option maxHeartbeats 4000000 in
theorem turns11_walk {nb lb : Nat} (C : P11C nb lb) (hnb : 300 ≤ nb) (hlb : 120 ≤ lb) (w : World) (vl : Value) (l : List Stp) (Tl : IsSts w vl l) (Sl : Shp vl) (Gl : ∀ x ∈ l, goodSt x) (n : Int) :
    Calls Try.prog 8 #[vl, .int .i64 n] w fun e w' => e = .returned (.bool true) ∧ Below w.heap.size w w' := by
  have HSh : Hid (∀ W, Below w.heap.size w W → Calls Try.prog 10 #[] W fun e w' => e = .returned (.bool true) ∧ Below W.heap.size W w') := fun W h => shown11_any C (by omega) (by omega) W
  have HF : Hid (∀ W, Below w.heap.size w W → Calls Try.prog 11 #[vl] W fun e w' => e = .returned (.bool (decide (l.length ≤ 120))) ∧ Below W.heap.size W w') := fun W hb => few11_any vl l W (Tl.below hb)
  have HCC : Hid (∀ (m : List Stp) vm W, IsSts W vm m → Shp vm → (∀ x ∈ m, x ∈ l) → m.length ≤ 120 → Calls Try.prog 20 #[vm] W fun e w' => e = .returned (.bool (clB m)) ∧ Below W.heap.size W w') := fun m vm W hT hS hm hl => C.closed m vm W hT hS (fun x hx => Gl x (hm x hx)) (by omega)
  by_cases h1 : l.length ≤ 120
  · rw [decide_eq_true h1] at HF
    by_cases c1 : n < 0
    · skip
      obtain ⟨al, cl, rfl, il, jl, kl⟩ := Tl.len
      obtain ⟨nl, hnl⟩ : ∃ nl, l.length = nl := ⟨_, rfl⟩
      rw [hnl] at Tl HF il kl ⊢
      clear hnl
      go_enter Try.func8, Try.ntmps8
      go_wp2_with fail
      refine (HSh.out _ (Below.refl w.heap.size w)).mono ?_
      rintro e w1 ⟨rfl, b1⟩
      have B1 := bel_trans (Below.refl w.heap.size w) b1
      go_wp2_with fail
      refine (HF.out _ B1).mono ?_
      rintro e w2 ⟨rfl, b2⟩
      have B2 := bel_trans B1 b2
      go_wp2_with fail
      go_ret
      exact ⟨rfl, B2⟩
    · by_cases c2 : (l.length : Int) ≤ n
      · skip
        obtain ⟨al, cl, rfl, il, jl, kl⟩ := Tl.len
        obtain ⟨nl, hnl⟩ : ∃ nl, l.length = nl := ⟨_, rfl⟩
        rw [hnl] at Tl HF il kl c2 ⊢
        clear hnl
        go_enter Try.func8, Try.ntmps8
        go_wp2_with fail
        refine (HSh.out _ (Below.refl w.heap.size w)).mono ?_
        rintro e w1 ⟨rfl, b1⟩
        have B1 := bel_trans (Below.refl w.heap.size w) b1
        go_wp2_with fail
        refine (HF.out _ B1).mono ?_
        rintro e w2 ⟨rfl, b2⟩
        have B2 := bel_trans B1 b2
        go_wp2_with fail
        go_ret
        exact ⟨rfl, B2⟩
      · skip
        obtain ⟨N, rfl⟩ : ∃ N : Nat, n = (N : Int) := ⟨n.toNat, by omega⟩
        obtain ⟨i0, hi, hz0, hz1, hz2⟩ := info_parts st_info
        have d1 : N < l.length := by omega
        have HTu : Hid (clB (l.drop N ++ l.take N) = clB l) := cl_turn l N
        have HLs : Hid (∀ s, l[N]'d1 = s → clB l = true → s.1 ≠ s.2.1 → clB (l.drop (N + 1) ++ l.take N) = false) := fun s hs hc hn => by
          have e : l.drop N ++ l.take N = s :: (l.drop (N + 1) ++ l.take N) := by rw [List.drop_eq_getElem_cons d1, hs]; rfl
          have h := cl_turn l N
          rw [e, hc] at h
          exact cl_less s _ h hn
        have HKd : Hid ((l.drop N ++ l.take N).drop 1 = l.drop (N + 1) ++ l.take N) := by
          show _ = _
          rw [List.drop_append_of_le_length (by rw [List.length_drop]; omega), List.drop_drop]
        have HKl : Hid ((l.drop N ++ l.take N).length = l.length) := by show _ = _; rw [List.length_append, List.length_drop, List.length_take]; omega
        have HKm : Hid (∀ x ∈ l.drop N ++ l.take N, x ∈ l) := fun x hx => by
          rcases List.mem_append.1 hx with h | h
          · exact List.mem_of_mem_drop h
          · exact List.mem_of_mem_take h
        obtain ⟨kk, hkk⟩ : ∃ kk, l.drop N ++ l.take N = kk := ⟨_, rfl⟩
        have HKK : Hid (l.drop N ++ l.take N = kk) := hkk
        obtain ⟨k1, hk1⟩ : ∃ k1, l.drop (N + 1) ++ l.take N = k1 := ⟨_, rfl⟩
        rw [hkk] at HTu HKd HKl HKm
        rw [hk1] at HLs HKd
        clear hkk hk1
        obtain ⟨cb, hcb⟩ : ∃ cb, clB l = cb := ⟨_, rfl⟩
        have HCB : Hid (clB l = cb) := hcb
        rw [hcb] at HTu HLs
        clear hcb
        have Tl0 := Tl
        obtain ⟨al, cl, rfl, il, jl, kl, HCl⟩ := Tl.reads
        obtain ⟨bl, ol, rfl, u0, _, C1⟩ := HCl.out N d1
        obtain ⟨⟨fr, tt, E⟩, hx⟩ : ∃ x, l[N]'d1 = x := ⟨_, rfl⟩
        have HX : Hid (l[N]'d1 = (fr, tt, E)) := hx
        rw [hx] at C1
        simp only at C1
        have HC1 : Hid (∀ V, Below w.heap.size w V → V.cell? ⟨bl, ol + N * 3, none⟩ = some (.int .i64 fr) ∧ V.cell? ⟨bl, ol + N * 3 + 1, none⟩ = some (.int .i64 tt)) := fun V hV => ⟨(C1 V hV).1, (C1 V hV).2.1⟩
        have HLx : Hid (cb = true → fr ≠ tt → clB k1 = false) := fun h h' => HLs.out _ hx h h'
        clear hx C1 HLs
        obtain ⟨nl, hnl⟩ : ∃ nl, l.length = nl := ⟨_, rfl⟩
        have HNL : Hid (l.length = nl) := hnl
        obtain ⟨L', R1, R2⟩ := Tl
        have HL' : Hid (L'.length = nl) := R2.1.trans hnl
        have RD : Hid (∀ W, Below w.heap.size w W → IsRec 3 stV W (.slice (some ⟨bl, ol + N * 3, none⟩) (nl - N) (cl - N)) (L'.drop N)) := fun W hb => by
          have h := R1.below hb
          rw [← R2.1] at h
          have e := IsRec.cut h N L'.length (by rw [R2.1]; omega) (Nat.le_refl _)
          rw [List.take_of_length_le (by rw [List.length_drop]; exact Nat.le_refl _), HL'.out] at e
          exact e
        have RT : Hid (∀ W, Below w.heap.size w W → IsRec 3 stV W (.slice (some ⟨bl, ol, none⟩) N cl) (L'.take N)) := fun W hb => by
          have h := R1.below hb
          rw [← R2.1] at h
          have e := IsRec.cut h 0 N (Nat.zero_le _) (by rw [R2.1]; omega)
          simpa using e
        have HR2 : Hid (StOf w L' l) := R2
        have HJ : Hid (StOf w (L'.drop N ++ L'.take N) kk) := by
          have e := (R2.drop N).join (R2.first N)
          rw [HKK.out] at e
          exact e
        have HlD : Hid ((L'.drop N).length = nl - N) := by show _ = _; rw [List.length_drop, HL'.out]
        have HlT : Hid ((L'.take N).length = N) := by show _ = _; rw [List.length_take, HL'.out]; omega
        rw [hnl] at Tl0 HF il kl h1 d1 c2 HKl ⊢
        clear hnl R1 R2
        have q1 : ¬ (nl : Int) ≤ (N : Int) := c2
        have q2 : (N : Int) ≤ (nl : Int) := by omega
        have q3 : (N : Int) ≤ (cl : Int) := by omega
        have q4 : N ≤ cl := by omega
        have q5 : N ≤ nl := by omega
        have q6 : ¬ cl = N := by omega
        have q8 : (nl : Int) ≤ (cl : Int) := by omega
        have q9 : (0 : Int) ≤ (N : Int) := by omega
        have q10 : (N : Int) < (nl : Int) := by omega
        go_enter Try.func8, Try.ntmps8
        go_wp2_with fail
        refine (HSh.out _ (Below.refl w.heap.size w)).mono ?_
        rintro e w1 ⟨rfl, b1⟩
        have B1 := bel_trans (Below.refl w.heap.size w) b1
        go_wp2_with fail
        refine (HF.out _ B1).mono ?_
        rintro e w2 ⟨rfl, b2⟩
        have B2 := bel_trans B1 b2
        go_wp2_with fail
        refine wp_region_any (by kernel_rfl) ?_
        change wpAny _ _ _ _ _ _ _ (World.drew _)
        generalize hwd : World.drew _ = wd
        have Bd : Below w.heap.size w wd := by rw [← hwd]; exact B2.drew
        clear hwd
        refine any_of_C (C := fun V => True) 9 _ _ _ _ ?_
        refine takeC (i := 1) (v := .slice (some ⟨bl, ol, none⟩) nl cl) rfl (by kernel_rfl) (by kernel_rfl) (by kernel_rfl) (by kernel_rfl) (by kernel_rfl) (fun _ _ _ h => h) (Or.inl ⟨by kernel_rfl, fun V hV => by go_simp⟩) ?_
        refine takeC (i := 2) (v := .int .i64 (N : Int)) rfl (by kernel_rfl) (by kernel_rfl) (by kernel_rfl) (by kernel_rfl) (by kernel_rfl) (fun _ _ _ h => h) (Or.inl ⟨by kernel_rfl, fun V hV => by go_simp⟩) ?_
        refine takeC (i := 3) (v := .slice (some ⟨bl, ol + N * 3, none⟩) (nl - N) (cl - N)) rfl (by kernel_rfl) (by kernel_rfl) (by kernel_rfl) (by kernel_rfl) (by kernel_rfl) (fun _ _ _ h => h) (Or.inl ⟨by kernel_rfl, fun V hV => by go_simp⟩) ?_
        refine takeC (i := 5) (v := .slice (some ⟨bl, ol, none⟩) nl cl) rfl (by kernel_rfl) (by kernel_rfl) (by kernel_rfl) (by kernel_rfl) (by kernel_rfl) (fun _ _ _ h => h) (Or.inl ⟨by kernel_rfl, fun V hV => by go_simp⟩) ?_
        refine takeC (i := 6) (v := .int .i64 (N : Int)) rfl (by kernel_rfl) (by kernel_rfl) (by kernel_rfl) (by kernel_rfl) (by kernel_rfl) (fun _ _ _ h => h) (Or.inl ⟨by kernel_rfl, fun V hV => by go_simp⟩) ?_
        refine takeC (i := 7) (v := .slice (some ⟨bl, ol, none⟩) N cl) rfl (by kernel_rfl) (by kernel_rfl) (by kernel_rfl) (by kernel_rfl) (by kernel_rfl) (fun _ _ _ h => h) (Or.inl ⟨by kernel_rfl, fun V hV => by go_simp⟩) ?_
        refine consC (i := 0) (by kernel_rfl) (by kernel_rfl) trivial rfl (fun K hK => ?_)
        go_wp2_with fail
        have O0 := own_none11 wd 37 3
        have C0 : Below wd.heap.size wd (wd.alloc (.cells #[] 37)) := (Below.refl wd.heap.size wd).alloc (Nat.le_refl _) _
        refine consC (i := 4) (by kernel_rfl) (by kernel_rfl) trivial rfl (fun K hK => ?_)
        refine wpList_append_own_at _ rfl _ _ 23 rfl wd.heap.size 37 i0 (.agg #[.int .i64 0, .int .i64 0, .slice none 0 0]) 3 40 Try.underlying23 hi hz0 hz1 hz2 rfl (by decide) _ _ _ rfl O0 ⟨bl, ol + N * 3, none⟩ (nl - N) (cl - N) (recV stV (L'.drop N)) rfl ?p1 ?p2 ?p3 ?p4 ?p5 ?p6 ?_
        case p1 => rw [recV_length stV_len, HlD.out]
        case p2 => exact IsRec.src11 stV_len (by omega) (RD.out wd Bd) C0
        case p3 => exact (HR2.out.drop N).cells
        case p4 => unfold maxLen; omega
        case p5 => omega
        case p6 => simp
        intro v5 W5 own5 gr5 _ _
        have C5 : Below wd.heap.size wd W5 := C0.grown gr5 (by simp) (fun j hj => (O0.lt j hj).1)
        clear gr5
        go_wp2_with fail
        refine consC (i := 8) (by kernel_rfl) (by kernel_rfl) trivial rfl (fun K hK => ?_)
        refine wpList_append_own_at _ rfl _ _ 23 rfl wd.heap.size 37 i0 (.agg #[.int .i64 0, .int .i64 0, .slice none 0 0]) 3 40 Try.underlying23 hi hz0 hz1 hz2 rfl (by decide) _ _ _ rfl own5 ⟨bl, ol, none⟩ N cl (recV stV (L'.take N)) rfl ?r1 ?r2 ?r3 ?r4 ?r5 ?r6 ?_
        case r1 => rw [recV_length stV_len, HlT.out]
        case r2 => exact IsRec.src11 stV_len (by omega) (RT.out wd Bd) C5
        case r3 => exact (HR2.out.first N).cells
        case r4 => unfold maxLen; omega
        case r5 => omega
        case r6 => exact C5.size
        intro v6 W6 own6 gr6 _ _
        have C6 : Below wd.heap.size wd W6 := C5.grown gr6 C5.size (fun j hj => (own5.lt j hj).1)
        clear gr6
        have B6 : Below w.heap.size w W6 := bel_trans Bd C6
        have T6 : IsSts W6 v6 kk := IsSts.own (by
            rw [List.nil_append, ← recV_append, show 0 + (nl - N) + N = (L'.drop N ++ L'.take N).length by rw [List.length_append, HlD.out, HlT.out]; omega] at own6
            exact own6) (HJ.out.below B6) (by rw [List.length_append, HlD.out, HlT.out]; omega)
        obtain ⟨g6, c6, rfl, hc6, hm6, hg6⟩ := own_slice11j own6
        obtain ⟨b6, rfl⟩ := hg6 (by omega)
        have HN6 : Hid (0 + (nl - N) + N = nl) := by show _ = _; omega
        rw [HN6.out] at T6 hc6 ⊢
        clear own5 own6 O0 hg6
        go_wp2_with fail
        refine lastC (by kernel_rfl) (by kernel_rfl) trivial (of_decide_eq_true (by kernel_rfl)) ?_
        refine any_seqI [9] [_] _ _ _ rfl (by kernel_rfl) ?_
        go_wp2_with fail
        have D1 := HCC.out l _ _ (Tl0.below B6) (.inr ⟨_, _, _, rfl⟩) (fun _ h => h) (by rw [HNL.out]; exact h1)
        rw [HCB.out] at D1
        refine D1.mono ?_
        rintro e w7 ⟨rfl, b7⟩
        have B7 := bel_trans B6 b7
        go_wp2_with fail
        have D2 := HCC.out kk _ _ (T6.below b7) (.inr ⟨_, _, _, rfl⟩) HKm.out (by rw [HKl.out]; exact h1)
        rw [HTu.out] at D2
        refine D2.mono ?_
        rintro e w8 ⟨rfl, b8⟩
        have B8 := bel_trans B7 b8
        have T8 := T6.below (bel_trans b7 b8)
        clear D1 D2 T6
        cases cb with
        | false =>
          go_wp2_with fail
          refine wp_region_any (by kernel_rfl) ?_
          change wpAny _ _ _ _ _ _ _ (World.drew _)
          generalize hwe : World.drew _ = we
          have Be : Below w.heap.size w we := by rw [← hwe]; exact B8.drew
          have be : Below w8.heap.size w8 we := by rw [← hwe]; exact (Below.refl _ _).drew
          clear hwe
          obtain ⟨y0, y1⟩ := HC1.out _ Be
          refine any_of_C (C := fun V => V.cell? ⟨bl, ol + N * 3, none⟩ = some (.int .i64 fr) ∧ V.cell? ⟨bl, ol + N * 3 + 1, none⟩ = some (.int .i64 tt)) 20 _ _ _ _ ?_
          refine takeCC [1, 2, 3, 7, 8, 20] (i := 0) (v := .slice (some ⟨bl, ol, none⟩) nl cl) rfl (by kernel_rfl) (by kernel_rfl) (by kernel_rfl) (by kernel_rfl) (by kernel_rfl) (by kernel_rfl) (fun _ _ _ h => h) (Or.inl ⟨by kernel_rfl, fun V hV => by obtain ⟨r0, r1⟩ := hV; go_simp⟩) ?_
          refine consC (i := 1) (by kernel_rfl) (by kernel_rfl) ⟨y0, y1⟩ rfl (fun K hK => ?_)
          have D4 := HCC.out l _ _ (Tl0.below Be) (.inr ⟨_, _, _, rfl⟩) (fun _ h => h) (by rw [HNL.out]; exact h1)
          rw [HCB.out] at D4
          go_wp2_with fail
          refine D4.mono ?_
          rintro e w9 ⟨rfl, b9⟩
          have B9 := bel_trans Be b9
          have b89 := bel_trans be b9
          clear D4 y0 y1
          obtain ⟨y0, y1⟩ := HC1.out _ B9
          go_wp2_with fail
          refine takeCC [3, 7, 8, 20] (i := 2) (v := .bool true) rfl (by kernel_rfl) (by kernel_rfl) (by kernel_rfl) (by kernel_rfl) (by kernel_rfl) (by kernel_rfl) (fun _ _ _ h => h) (Or.inl ⟨by kernel_rfl, fun V hV => by obtain ⟨r0, r1⟩ := hV; go_simp⟩) ?_
          refine takeCC [7, 8, 20] (i := 3) (v := .bool true) rfl (by kernel_rfl) (by kernel_rfl) (by kernel_rfl) (by kernel_rfl) (by kernel_rfl) (by kernel_rfl) (fun _ _ _ h => h) (Or.inl ⟨by kernel_rfl, fun V hV => by obtain ⟨r0, r1⟩ := hV; go_simp⟩) ?_
          refine takeCC [5, 6, 7, 8, 20] (i := 4) (v := undef) rfl (by kernel_rfl) (by kernel_rfl) (by kernel_rfl) (by kernel_rfl) (by kernel_rfl) (by kernel_rfl) (fun _ _ _ h => h) (Or.inr ⟨by kernel_rfl, rfl⟩) ?_
          refine takeCC [6, 7, 8, 20] (i := 5) (v := undef) rfl (by kernel_rfl) (by kernel_rfl) (by kernel_rfl) (by kernel_rfl) (by kernel_rfl) (by kernel_rfl) (fun _ _ _ h => h) (Or.inr ⟨by kernel_rfl, rfl⟩) ?_
          refine takeCC [7, 8, 20] (i := 6) (v := undef) rfl (by kernel_rfl) (by kernel_rfl) (by kernel_rfl) (by kernel_rfl) (by kernel_rfl) (by kernel_rfl) (fun _ _ _ h => h) (Or.inr ⟨by kernel_rfl, rfl⟩) ?_
          refine takeCC [8, 20] (i := 7) (v := .bool true) rfl (by kernel_rfl) (by kernel_rfl) (by kernel_rfl) (by kernel_rfl) (by kernel_rfl) (by kernel_rfl) (fun _ _ _ h => h) (Or.inl ⟨by kernel_rfl, fun V hV => by obtain ⟨r0, r1⟩ := hV; go_simp⟩) ?_
          refine takeCC [20] (i := 8) (v := .bool true) rfl (by kernel_rfl) (by kernel_rfl) (by kernel_rfl) (by kernel_rfl) (by kernel_rfl) (by kernel_rfl) (fun _ _ _ h => h) (Or.inl ⟨by kernel_rfl, fun V hV => by obtain ⟨r0, r1⟩ := hV; go_simp⟩) ?_
          refine takeCC [11, 12, 13, 19, 20] (i := 9) (v := undef) rfl (by kernel_rfl) (by kernel_rfl) (by kernel_rfl) (by kernel_rfl) (by kernel_rfl) (by kernel_rfl) (fun _ _ _ h => h) (Or.inr ⟨by kernel_rfl, rfl⟩) ?_
          refine takeCC [11, 12, 13, 19, 20] (i := 10) (v := undef) rfl (by kernel_rfl) (by kernel_rfl) (by kernel_rfl) (by kernel_rfl) (by kernel_rfl) (by kernel_rfl) (fun _ _ _ h => h) (Or.inr ⟨by kernel_rfl, rfl⟩) ?_
          refine takeCC [12, 13, 19, 20] (i := 11) (v := undef) rfl (by kernel_rfl) (by kernel_rfl) (by kernel_rfl) (by kernel_rfl) (by kernel_rfl) (by kernel_rfl) (fun _ _ _ h => h) (Or.inr ⟨by kernel_rfl, rfl⟩) ?_
          refine takeCC [13, 19, 20] (i := 12) (v := undef) rfl (by kernel_rfl) (by kernel_rfl) (by kernel_rfl) (by kernel_rfl) (by kernel_rfl) (by kernel_rfl) (fun _ _ _ h => h) (Or.inr ⟨by kernel_rfl, rfl⟩) ?_
          refine takeCC [19, 20] (i := 13) (v := undef) rfl (by kernel_rfl) (by kernel_rfl) (by kernel_rfl) (by kernel_rfl) (by kernel_rfl) (by kernel_rfl) (fun _ _ _ h => h) (Or.inr ⟨by kernel_rfl, rfl⟩) ?_
          refine takeCC [16, 17, 18, 19, 20] (i := 14) (v := undef) rfl (by kernel_rfl) (by kernel_rfl) (by kernel_rfl) (by kernel_rfl) (by kernel_rfl) (by kernel_rfl) (fun _ _ _ h => h) (Or.inr ⟨by kernel_rfl, rfl⟩) ?_
          refine takeCC [16, 17, 18, 19, 20] (i := 15) (v := undef) rfl (by kernel_rfl) (by kernel_rfl) (by kernel_rfl) (by kernel_rfl) (by kernel_rfl) (by kernel_rfl) (fun _ _ _ h => h) (Or.inr ⟨by kernel_rfl, rfl⟩) ?_
          refine takeCC [17, 18, 19, 20] (i := 16) (v := undef) rfl (by kernel_rfl) (by kernel_rfl) (by kernel_rfl) (by kernel_rfl) (by kernel_rfl) (by kernel_rfl) (fun _ _ _ h => h) (Or.inr ⟨by kernel_rfl, rfl⟩) ?_
          refine takeCC [18, 19, 20] (i := 17) (v := undef) rfl (by kernel_rfl) (by kernel_rfl) (by kernel_rfl) (by kernel_rfl) (by kernel_rfl) (by kernel_rfl) (fun _ _ _ h => h) (Or.inr ⟨by kernel_rfl, rfl⟩) ?_
          refine takeCC [19, 20] (i := 18) (v := undef) rfl (by kernel_rfl) (by kernel_rfl) (by kernel_rfl) (by kernel_rfl) (by kernel_rfl) (by kernel_rfl) (fun _ _ _ h => h) (Or.inr ⟨by kernel_rfl, rfl⟩) ?_
          refine takeCC [20] (i := 19) (v := undef) rfl (by kernel_rfl) (by kernel_rfl) (by kernel_rfl) (by kernel_rfl) (by kernel_rfl) (by kernel_rfl) (fun _ _ _ h => h) (Or.inr ⟨by kernel_rfl, rfl⟩) ?_
          refine lastC (by kernel_rfl) (by kernel_rfl) ⟨y0, y1⟩ (of_decide_eq_true (by kernel_rfl)) ?_
          refine any_seqI [20] [_] _ _ _ rfl (by kernel_rfl) ?_
          go_wp2_with fail
          go_ret
          exact ⟨rfl, B9⟩
        | true =>
          by_cases e2 : nl < 2
          · have q12 : (nl : Int) < 2 := by omega
            go_wp2_with fail
            refine wp_region_any (by kernel_rfl) ?_
            change wpAny _ _ _ _ _ _ _ (World.drew _)
            generalize hwe : World.drew _ = we
            have Be : Below w.heap.size w we := by rw [← hwe]; exact B8.drew
            have be : Below w8.heap.size w8 we := by rw [← hwe]; exact (Below.refl _ _).drew
            clear hwe
            obtain ⟨y0, y1⟩ := HC1.out _ Be
            refine any_of_C (C := fun V => V.cell? ⟨bl, ol + N * 3, none⟩ = some (.int .i64 fr) ∧ V.cell? ⟨bl, ol + N * 3 + 1, none⟩ = some (.int .i64 tt)) 20 _ _ _ _ ?_
            refine takeCC [1, 2, 3, 7, 8, 20] (i := 0) (v := .slice (some ⟨bl, ol, none⟩) nl cl) rfl (by kernel_rfl) (by kernel_rfl) (by kernel_rfl) (by kernel_rfl) (by kernel_rfl) (by kernel_rfl) (fun _ _ _ h => h) (Or.inl ⟨by kernel_rfl, fun V hV => by obtain ⟨r0, r1⟩ := hV; go_simp⟩) ?_
            refine consC (i := 1) (by kernel_rfl) (by kernel_rfl) ⟨y0, y1⟩ rfl (fun K hK => ?_)
            have D4 := HCC.out l _ _ (Tl0.below Be) (.inr ⟨_, _, _, rfl⟩) (fun _ h => h) (by rw [HNL.out]; exact h1)
            rw [HCB.out] at D4
            go_wp2_with fail
            refine D4.mono ?_
            rintro e w9 ⟨rfl, b9⟩
            have B9 := bel_trans Be b9
            have b89 := bel_trans be b9
            clear D4 y0 y1
            obtain ⟨y0, y1⟩ := HC1.out _ B9
            go_wp2_with fail
            refine takeCC [3, 7, 8, 20] (i := 2) (v := .bool false) rfl (by kernel_rfl) (by kernel_rfl) (by kernel_rfl) (by kernel_rfl) (by kernel_rfl) (by kernel_rfl) (fun _ _ _ h => h) (Or.inl ⟨by kernel_rfl, fun V hV => by obtain ⟨r0, r1⟩ := hV; go_simp⟩) ?_
            refine takeCC [7, 8, 20] (i := 3) (v := .bool false) rfl (by kernel_rfl) (by kernel_rfl) (by kernel_rfl) (by kernel_rfl) (by kernel_rfl) (by kernel_rfl) (fun _ _ _ h => h) (Or.inl ⟨by kernel_rfl, fun V hV => by obtain ⟨r0, r1⟩ := hV; go_simp⟩) ?_
            refine takeCC [5, 6, 7, 8, 20] (i := 4) (v := .slice (some ⟨bl, ol, none⟩) nl cl) rfl (by kernel_rfl) (by kernel_rfl) (by kernel_rfl) (by kernel_rfl) (by kernel_rfl) (by kernel_rfl) (fun _ _ _ h => h) (Or.inl ⟨by kernel_rfl, fun V hV => by obtain ⟨r0, r1⟩ := hV; go_simp⟩) ?_
            refine takeCC [6, 7, 8, 20] (i := 5) (v := .int .i64 (nl : Int)) rfl (by kernel_rfl) (by kernel_rfl) (by kernel_rfl) (by kernel_rfl) (by kernel_rfl) (by kernel_rfl) (fun _ _ _ h => h) (Or.inl ⟨by kernel_rfl, fun V hV => by obtain ⟨r0, r1⟩ := hV; go_simp⟩) ?_
            refine takeCC [7, 8, 20] (i := 6) (v := .bool true) rfl (by kernel_rfl) (by kernel_rfl) (by kernel_rfl) (by kernel_rfl) (by kernel_rfl) (by kernel_rfl) (fun _ _ _ h => h) (Or.inl ⟨by kernel_rfl, fun V hV => by obtain ⟨r0, r1⟩ := hV; go_simp⟩) ?_
            refine takeCC [8, 20] (i := 7) (v := .bool true) rfl (by kernel_rfl) (by kernel_rfl) (by kernel_rfl) (by kernel_rfl) (by kernel_rfl) (by kernel_rfl) (fun _ _ _ h => h) (Or.inl ⟨by kernel_rfl, fun V hV => by obtain ⟨r0, r1⟩ := hV; go_simp⟩) ?_
            refine takeCC [20] (i := 8) (v := .bool true) rfl (by kernel_rfl) (by kernel_rfl) (by kernel_rfl) (by kernel_rfl) (by kernel_rfl) (by kernel_rfl) (fun _ _ _ h => h) (Or.inl ⟨by kernel_rfl, fun V hV => by obtain ⟨r0, r1⟩ := hV; go_simp⟩) ?_
            refine takeCC [11, 12, 13, 19, 20] (i := 9) (v := undef) rfl (by kernel_rfl) (by kernel_rfl) (by kernel_rfl) (by kernel_rfl) (by kernel_rfl) (by kernel_rfl) (fun _ _ _ h => h) (Or.inr ⟨by kernel_rfl, rfl⟩) ?_
            refine takeCC [11, 12, 13, 19, 20] (i := 10) (v := undef) rfl (by kernel_rfl) (by kernel_rfl) (by kernel_rfl) (by kernel_rfl) (by kernel_rfl) (by kernel_rfl) (fun _ _ _ h => h) (Or.inr ⟨by kernel_rfl, rfl⟩) ?_
            refine takeCC [12, 13, 19, 20] (i := 11) (v := undef) rfl (by kernel_rfl) (by kernel_rfl) (by kernel_rfl) (by kernel_rfl) (by kernel_rfl) (by kernel_rfl) (fun _ _ _ h => h) (Or.inr ⟨by kernel_rfl, rfl⟩) ?_
            refine takeCC [13, 19, 20] (i := 12) (v := undef) rfl (by kernel_rfl) (by kernel_rfl) (by kernel_rfl) (by kernel_rfl) (by kernel_rfl) (by kernel_rfl) (fun _ _ _ h => h) (Or.inr ⟨by kernel_rfl, rfl⟩) ?_
            refine takeCC [19, 20] (i := 13) (v := undef) rfl (by kernel_rfl) (by kernel_rfl) (by kernel_rfl) (by kernel_rfl) (by kernel_rfl) (by kernel_rfl) (fun _ _ _ h => h) (Or.inr ⟨by kernel_rfl, rfl⟩) ?_
            refine takeCC [16, 17, 18, 19, 20] (i := 14) (v := undef) rfl (by kernel_rfl) (by kernel_rfl) (by kernel_rfl) (by kernel_rfl) (by kernel_rfl) (by kernel_rfl) (fun _ _ _ h => h) (Or.inr ⟨by kernel_rfl, rfl⟩) ?_
            refine takeCC [16, 17, 18, 19, 20] (i := 15) (v := undef) rfl (by kernel_rfl) (by kernel_rfl) (by kernel_rfl) (by kernel_rfl) (by kernel_rfl) (by kernel_rfl) (fun _ _ _ h => h) (Or.inr ⟨by kernel_rfl, rfl⟩) ?_
            refine takeCC [17, 18, 19, 20] (i := 16) (v := undef) rfl (by kernel_rfl) (by kernel_rfl) (by kernel_rfl) (by kernel_rfl) (by kernel_rfl) (by kernel_rfl) (fun _ _ _ h => h) (Or.inr ⟨by kernel_rfl, rfl⟩) ?_
            refine takeCC [18, 19, 20] (i := 17) (v := undef) rfl (by kernel_rfl) (by kernel_rfl) (by kernel_rfl) (by kernel_rfl) (by kernel_rfl) (by kernel_rfl) (fun _ _ _ h => h) (Or.inr ⟨by kernel_rfl, rfl⟩) ?_
            refine takeCC [19, 20] (i := 18) (v := undef) rfl (by kernel_rfl) (by kernel_rfl) (by kernel_rfl) (by kernel_rfl) (by kernel_rfl) (by kernel_rfl) (fun _ _ _ h => h) (Or.inr ⟨by kernel_rfl, rfl⟩) ?_
            refine takeCC [20] (i := 19) (v := undef) rfl (by kernel_rfl) (by kernel_rfl) (by kernel_rfl) (by kernel_rfl) (by kernel_rfl) (by kernel_rfl) (fun _ _ _ h => h) (Or.inr ⟨by kernel_rfl, rfl⟩) ?_
            refine lastC (by kernel_rfl) (by kernel_rfl) ⟨y0, y1⟩ (of_decide_eq_true (by kernel_rfl)) ?_
            refine any_seqI [20] [_] _ _ _ rfl (by kernel_rfl) ?_
            go_wp2_with fail
            go_ret
            exact ⟨rfl, B9⟩
          · have q12 : ¬ (nl : Int) < 2 := by omega
            by_cases e3 : fr = tt
            · subst e3
              go_wp2_with fail
              refine wp_region_any (by kernel_rfl) ?_
              change wpAny _ _ _ _ _ _ _ (World.drew _)
              generalize hwe : World.drew _ = we
              have Be : Below w.heap.size w we := by rw [← hwe]; exact B8.drew
              have be : Below w8.heap.size w8 we := by rw [← hwe]; exact (Below.refl _ _).drew
              clear hwe
              obtain ⟨y0, y1⟩ := HC1.out _ Be
              refine any_of_C (C := fun V => V.cell? ⟨bl, ol + N * 3, none⟩ = some (.int .i64 fr) ∧ V.cell? ⟨bl, ol + N * 3 + 1, none⟩ = some (.int .i64 fr)) 20 _ _ _ _ ?_
              refine takeCC [1, 2, 3, 7, 8, 20] (i := 0) (v := .slice (some ⟨bl, ol, none⟩) nl cl) rfl (by kernel_rfl) (by kernel_rfl) (by kernel_rfl) (by kernel_rfl) (by kernel_rfl) (by kernel_rfl) (fun _ _ _ h => h) (Or.inl ⟨by kernel_rfl, fun V hV => by obtain ⟨r0, r1⟩ := hV; go_simp⟩) ?_
              refine consC (i := 1) (by kernel_rfl) (by kernel_rfl) ⟨y0, y1⟩ rfl (fun K hK => ?_)
              have D4 := HCC.out l _ _ (Tl0.below Be) (.inr ⟨_, _, _, rfl⟩) (fun _ h => h) (by rw [HNL.out]; exact h1)
              rw [HCB.out] at D4
              go_wp2_with fail
              refine D4.mono ?_
              rintro e w9 ⟨rfl, b9⟩
              have B9 := bel_trans Be b9
              have b89 := bel_trans be b9
              clear D4 y0 y1
              obtain ⟨y0, y1⟩ := HC1.out _ B9
              go_wp2_with fail
              refine takeCC [3, 7, 8, 20] (i := 2) (v := .bool false) rfl (by kernel_rfl) (by kernel_rfl) (by kernel_rfl) (by kernel_rfl) (by kernel_rfl) (by kernel_rfl) (fun _ _ _ h => h) (Or.inl ⟨by kernel_rfl, fun V hV => by obtain ⟨r0, r1⟩ := hV; go_simp⟩) ?_
              refine takeCC [7, 8, 20] (i := 3) (v := .bool false) rfl (by kernel_rfl) (by kernel_rfl) (by kernel_rfl) (by kernel_rfl) (by kernel_rfl) (by kernel_rfl) (fun _ _ _ h => h) (Or.inl ⟨by kernel_rfl, fun V hV => by obtain ⟨r0, r1⟩ := hV; go_simp⟩) ?_
              refine takeCC [5, 6, 7, 8, 20] (i := 4) (v := .slice (some ⟨bl, ol, none⟩) nl cl) rfl (by kernel_rfl) (by kernel_rfl) (by kernel_rfl) (by kernel_rfl) (by kernel_rfl) (by kernel_rfl) (fun _ _ _ h => h) (Or.inl ⟨by kernel_rfl, fun V hV => by obtain ⟨r0, r1⟩ := hV; go_simp⟩) ?_
              refine takeCC [6, 7, 8, 20] (i := 5) (v := .int .i64 (nl : Int)) rfl (by kernel_rfl) (by kernel_rfl) (by kernel_rfl) (by kernel_rfl) (by kernel_rfl) (by kernel_rfl) (fun _ _ _ h => h) (Or.inl ⟨by kernel_rfl, fun V hV => by obtain ⟨r0, r1⟩ := hV; go_simp⟩) ?_
              refine takeCC [7, 8, 20] (i := 6) (v := .bool false) rfl (by kernel_rfl) (by kernel_rfl) (by kernel_rfl) (by kernel_rfl) (by kernel_rfl) (by kernel_rfl) (fun _ _ _ h => h) (Or.inl ⟨by kernel_rfl, fun V hV => by obtain ⟨r0, r1⟩ := hV; go_simp⟩) ?_
              refine takeCC [8, 20] (i := 7) (v := .bool false) rfl (by kernel_rfl) (by kernel_rfl) (by kernel_rfl) (by kernel_rfl) (by kernel_rfl) (by kernel_rfl) (fun _ _ _ h => h) (Or.inl ⟨by kernel_rfl, fun V hV => by obtain ⟨r0, r1⟩ := hV; go_simp⟩) ?_
              refine takeCC [20] (i := 8) (v := .bool false) rfl (by kernel_rfl) (by kernel_rfl) (by kernel_rfl) (by kernel_rfl) (by kernel_rfl) (by kernel_rfl) (fun _ _ _ h => h) (Or.inl ⟨by kernel_rfl, fun V hV => by obtain ⟨r0, r1⟩ := hV; go_simp⟩) ?_
              refine takeCC [11, 12, 13, 19, 20] (i := 9) (v := .slice (some ⟨bl, ol, none⟩) nl cl) rfl (by kernel_rfl) (by kernel_rfl) (by kernel_rfl) (by kernel_rfl) (by kernel_rfl) (by kernel_rfl) (fun _ _ _ h => h) (Or.inl ⟨by kernel_rfl, fun V hV => by obtain ⟨r0, r1⟩ := hV; go_simp⟩) ?_
              refine takeCC [11, 12, 13, 19, 20] (i := 10) (v := .int .i64 (N : Int)) rfl (by kernel_rfl) (by kernel_rfl) (by kernel_rfl) (by kernel_rfl) (by kernel_rfl) (by kernel_rfl) (fun _ _ _ h => h) (Or.inl ⟨by kernel_rfl, fun V hV => by obtain ⟨r0, r1⟩ := hV; go_simp⟩) ?_
              refine takeCC [12, 13, 19, 20] (i := 11) (v := .pointer (some ⟨bl, ol + N * 3, none⟩)) rfl (by kernel_rfl) (by kernel_rfl) (by kernel_rfl) (by kernel_rfl) (by kernel_rfl) (by kernel_rfl) (fun _ _ _ h => h) (Or.inl ⟨by kernel_rfl, fun V hV => by obtain ⟨r0, r1⟩ := hV; go_simp⟩) ?_
              refine takeCC [13, 19, 20] (i := 12) (v := .pointer (some ⟨bl, ol + N * 3, none⟩)) rfl (by kernel_rfl) (by kernel_rfl) (by kernel_rfl) (by kernel_rfl) (by kernel_rfl) (by kernel_rfl) (fun _ _ _ h => h) (Or.inl ⟨by kernel_rfl, fun V hV => by obtain ⟨r0, r1⟩ := hV; go_simp⟩) ?_
              refine takeCC [19, 20] (i := 13) (v := .int .i64 fr) rfl (by kernel_rfl) (by kernel_rfl) (by kernel_rfl) (by kernel_rfl) (by kernel_rfl) (by kernel_rfl) (fun _ _ _ h => h) (Or.inl ⟨by kernel_rfl, fun V hV => by obtain ⟨r0, r1⟩ := hV; go_simp⟩) ?_
              refine takeCC [16, 17, 18, 19, 20] (i := 14) (v := .slice (some ⟨bl, ol, none⟩) nl cl) rfl (by kernel_rfl) (by kernel_rfl) (by kernel_rfl) (by kernel_rfl) (by kernel_rfl) (by kernel_rfl) (fun _ _ _ h => h) (Or.inl ⟨by kernel_rfl, fun V hV => by obtain ⟨r0, r1⟩ := hV; go_simp⟩) ?_
              refine takeCC [16, 17, 18, 19, 20] (i := 15) (v := .int .i64 (N : Int)) rfl (by kernel_rfl) (by kernel_rfl) (by kernel_rfl) (by kernel_rfl) (by kernel_rfl) (by kernel_rfl) (fun _ _ _ h => h) (Or.inl ⟨by kernel_rfl, fun V hV => by obtain ⟨r0, r1⟩ := hV; go_simp⟩) ?_
              refine takeCC [17, 18, 19, 20] (i := 16) (v := .pointer (some ⟨bl, ol + N * 3, none⟩)) rfl (by kernel_rfl) (by kernel_rfl) (by kernel_rfl) (by kernel_rfl) (by kernel_rfl) (by kernel_rfl) (fun _ _ _ h => h) (Or.inl ⟨by kernel_rfl, fun V hV => by obtain ⟨r0, r1⟩ := hV; go_simp⟩) ?_
              refine takeCC [18, 19, 20] (i := 17) (v := .pointer (some ⟨bl, ol + N * 3 + 1, none⟩)) rfl (by kernel_rfl) (by kernel_rfl) (by kernel_rfl) (by kernel_rfl) (by kernel_rfl) (by kernel_rfl) (fun _ _ _ h => h) (Or.inl ⟨by kernel_rfl, fun V hV => by obtain ⟨r0, r1⟩ := hV; go_simp⟩) ?_
              refine takeCC [19, 20] (i := 18) (v := .int .i64 fr) rfl (by kernel_rfl) (by kernel_rfl) (by kernel_rfl) (by kernel_rfl) (by kernel_rfl) (by kernel_rfl) (fun _ _ _ h => h) (Or.inl ⟨by kernel_rfl, fun V hV => by obtain ⟨r0, r1⟩ := hV; go_simp⟩) ?_
              refine takeCC [20] (i := 19) (v := .bool true) rfl (by kernel_rfl) (by kernel_rfl) (by kernel_rfl) (by kernel_rfl) (by kernel_rfl) (by kernel_rfl) (fun _ _ _ h => h) (Or.inl ⟨by kernel_rfl, fun V hV => by obtain ⟨r0, r1⟩ := hV; go_simp⟩) ?_
              refine lastC (by kernel_rfl) (by kernel_rfl) ⟨y0, y1⟩ (of_decide_eq_true (by kernel_rfl)) ?_
              refine any_seqI [20] [_] _ _ _ rfl (by kernel_rfl) ?_
              go_wp2_with fail
              go_ret
              exact ⟨rfl, B9⟩
            · have q13 : (fr == tt) = false := beq_eq_false_iff_ne.2 e3
              have HE3 : Hid (clB k1 = false) := HLx.out rfl e3
              clear e3
              go_wp2_with fail
              refine wp_region_any (by kernel_rfl) ?_
              change wpAny _ _ _ _ _ _ _ (World.drew _)
              generalize hwe : World.drew _ = we
              have Be : Below w.heap.size w we := by rw [← hwe]; exact B8.drew
              have be : Below w8.heap.size w8 we := by rw [← hwe]; exact (Below.refl _ _).drew
              clear hwe
              obtain ⟨y0, y1⟩ := HC1.out _ Be
              refine any_of_C (C := fun V => V.cell? ⟨bl, ol + N * 3, none⟩ = some (.int .i64 fr) ∧ V.cell? ⟨bl, ol + N * 3 + 1, none⟩ = some (.int .i64 tt)) 20 _ _ _ _ ?_
              refine takeCC [1, 2, 3, 7, 8, 20] (i := 0) (v := .slice (some ⟨bl, ol, none⟩) nl cl) rfl (by kernel_rfl) (by kernel_rfl) (by kernel_rfl) (by kernel_rfl) (by kernel_rfl) (by kernel_rfl) (fun _ _ _ h => h) (Or.inl ⟨by kernel_rfl, fun V hV => by obtain ⟨r0, r1⟩ := hV; go_simp⟩) ?_
              refine consC (i := 1) (by kernel_rfl) (by kernel_rfl) ⟨y0, y1⟩ rfl (fun K hK => ?_)
              have D4 := HCC.out l _ _ (Tl0.below Be) (.inr ⟨_, _, _, rfl⟩) (fun _ h => h) (by rw [HNL.out]; exact h1)
              rw [HCB.out] at D4
              go_wp2_with fail
              refine D4.mono ?_
              rintro e w9 ⟨rfl, b9⟩
              have B9 := bel_trans Be b9
              have b89 := bel_trans be b9
              clear D4 y0 y1
              obtain ⟨y0, y1⟩ := HC1.out _ B9
              go_wp2_with fail
              refine takeCC [3, 7, 8, 20] (i := 2) (v := .bool false) rfl (by kernel_rfl) (by kernel_rfl) (by kernel_rfl) (by kernel_rfl) (by kernel_rfl) (by kernel_rfl) (fun _ _ _ h => h) (Or.inl ⟨by kernel_rfl, fun V hV => by obtain ⟨r0, r1⟩ := hV; go_simp⟩) ?_
              refine takeCC [7, 8, 20] (i := 3) (v := .bool false) rfl (by kernel_rfl) (by kernel_rfl) (by kernel_rfl) (by kernel_rfl) (by kernel_rfl) (by kernel_rfl) (fun _ _ _ h => h) (Or.inl ⟨by kernel_rfl, fun V hV => by obtain ⟨r0, r1⟩ := hV; go_simp⟩) ?_
              refine takeCC [5, 6, 7, 8, 20] (i := 4) (v := .slice (some ⟨bl, ol, none⟩) nl cl) rfl (by kernel_rfl) (by kernel_rfl) (by kernel_rfl) (by kernel_rfl) (by kernel_rfl) (by kernel_rfl) (fun _ _ _ h => h) (Or.inl ⟨by kernel_rfl, fun V hV => by obtain ⟨r0, r1⟩ := hV; go_simp⟩) ?_
              refine takeCC [6, 7, 8, 20] (i := 5) (v := .int .i64 (nl : Int)) rfl (by kernel_rfl) (by kernel_rfl) (by kernel_rfl) (by kernel_rfl) (by kernel_rfl) (by kernel_rfl) (fun _ _ _ h => h) (Or.inl ⟨by kernel_rfl, fun V hV => by obtain ⟨r0, r1⟩ := hV; go_simp⟩) ?_
              refine takeCC [7, 8, 20] (i := 6) (v := .bool false) rfl (by kernel_rfl) (by kernel_rfl) (by kernel_rfl) (by kernel_rfl) (by kernel_rfl) (by kernel_rfl) (fun _ _ _ h => h) (Or.inl ⟨by kernel_rfl, fun V hV => by obtain ⟨r0, r1⟩ := hV; go_simp⟩) ?_
              refine takeCC [8, 20] (i := 7) (v := .bool false) rfl (by kernel_rfl) (by kernel_rfl) (by kernel_rfl) (by kernel_rfl) (by kernel_rfl) (by kernel_rfl) (fun _ _ _ h => h) (Or.inl ⟨by kernel_rfl, fun V hV => by obtain ⟨r0, r1⟩ := hV; go_simp⟩) ?_
              refine takeCC [20] (i := 8) (v := .bool false) rfl (by kernel_rfl) (by kernel_rfl) (by kernel_rfl) (by kernel_rfl) (by kernel_rfl) (by kernel_rfl) (fun _ _ _ h => h) (Or.inl ⟨by kernel_rfl, fun V hV => by obtain ⟨r0, r1⟩ := hV; go_simp⟩) ?_
              refine takeCC [11, 12, 13, 19, 20] (i := 9) (v := .slice (some ⟨bl, ol, none⟩) nl cl) rfl (by kernel_rfl) (by kernel_rfl) (by kernel_rfl) (by kernel_rfl) (by kernel_rfl) (by kernel_rfl) (fun _ _ _ h => h) (Or.inl ⟨by kernel_rfl, fun V hV => by obtain ⟨r0, r1⟩ := hV; go_simp⟩) ?_
              refine takeCC [11, 12, 13, 19, 20] (i := 10) (v := .int .i64 (N : Int)) rfl (by kernel_rfl) (by kernel_rfl) (by kernel_rfl) (by kernel_rfl) (by kernel_rfl) (by kernel_rfl) (fun _ _ _ h => h) (Or.inl ⟨by kernel_rfl, fun V hV => by obtain ⟨r0, r1⟩ := hV; go_simp⟩) ?_
              refine takeCC [12, 13, 19, 20] (i := 11) (v := .pointer (some ⟨bl, ol + N * 3, none⟩)) rfl (by kernel_rfl) (by kernel_rfl) (by kernel_rfl) (by kernel_rfl) (by kernel_rfl) (by kernel_rfl) (fun _ _ _ h => h) (Or.inl ⟨by kernel_rfl, fun V hV => by obtain ⟨r0, r1⟩ := hV; go_simp⟩) ?_
              refine takeCC [13, 19, 20] (i := 12) (v := .pointer (some ⟨bl, ol + N * 3, none⟩)) rfl (by kernel_rfl) (by kernel_rfl) (by kernel_rfl) (by kernel_rfl) (by kernel_rfl) (by kernel_rfl) (fun _ _ _ h => h) (Or.inl ⟨by kernel_rfl, fun V hV => by obtain ⟨r0, r1⟩ := hV; go_simp⟩) ?_
              refine takeCC [19, 20] (i := 13) (v := .int .i64 fr) rfl (by kernel_rfl) (by kernel_rfl) (by kernel_rfl) (by kernel_rfl) (by kernel_rfl) (by kernel_rfl) (fun _ _ _ h => h) (Or.inl ⟨by kernel_rfl, fun V hV => by obtain ⟨r0, r1⟩ := hV; go_simp⟩) ?_
              refine takeCC [16, 17, 18, 19, 20] (i := 14) (v := .slice (some ⟨bl, ol, none⟩) nl cl) rfl (by kernel_rfl) (by kernel_rfl) (by kernel_rfl) (by kernel_rfl) (by kernel_rfl) (by kernel_rfl) (fun _ _ _ h => h) (Or.inl ⟨by kernel_rfl, fun V hV => by obtain ⟨r0, r1⟩ := hV; go_simp⟩) ?_
              refine takeCC [16, 17, 18, 19, 20] (i := 15) (v := .int .i64 (N : Int)) rfl (by kernel_rfl) (by kernel_rfl) (by kernel_rfl) (by kernel_rfl) (by kernel_rfl) (by kernel_rfl) (fun _ _ _ h => h) (Or.inl ⟨by kernel_rfl, fun V hV => by obtain ⟨r0, r1⟩ := hV; go_simp⟩) ?_
              refine takeCC [17, 18, 19, 20] (i := 16) (v := .pointer (some ⟨bl, ol + N * 3, none⟩)) rfl (by kernel_rfl) (by kernel_rfl) (by kernel_rfl) (by kernel_rfl) (by kernel_rfl) (by kernel_rfl) (fun _ _ _ h => h) (Or.inl ⟨by kernel_rfl, fun V hV => by obtain ⟨r0, r1⟩ := hV; go_simp⟩) ?_
              refine takeCC [18, 19, 20] (i := 17) (v := .pointer (some ⟨bl, ol + N * 3 + 1, none⟩)) rfl (by kernel_rfl) (by kernel_rfl) (by kernel_rfl) (by kernel_rfl) (by kernel_rfl) (by kernel_rfl) (fun _ _ _ h => h) (Or.inl ⟨by kernel_rfl, fun V hV => by obtain ⟨r0, r1⟩ := hV; go_simp⟩) ?_
              refine takeCC [19, 20] (i := 18) (v := .int .i64 tt) rfl (by kernel_rfl) (by kernel_rfl) (by kernel_rfl) (by kernel_rfl) (by kernel_rfl) (by kernel_rfl) (fun _ _ _ h => h) (Or.inl ⟨by kernel_rfl, fun V hV => by obtain ⟨r0, r1⟩ := hV; go_simp⟩) ?_
              refine takeCC [20] (i := 19) (v := .bool false) rfl (by kernel_rfl) (by kernel_rfl) (by kernel_rfl) (by kernel_rfl) (by kernel_rfl) (by kernel_rfl) (fun _ _ _ h => h) (Or.inl ⟨by kernel_rfl, fun V hV => by obtain ⟨r0, r1⟩ := hV; go_simp⟩) ?_
              refine lastC (by kernel_rfl) (by kernel_rfl) ⟨y0, y1⟩ (of_decide_eq_true (by kernel_rfl)) ?_
              refine any_seqI [20] [_] _ _ _ rfl (by kernel_rfl) ?_
              have T9 := (T8.below b89).cut HKl.out 1 nl (by omega) (Nat.le_refl _)
              rw [HKd.out] at T9
              have HT9 : Hid (k1.length = nl - 1) := by
                show _ = _
                rw [← HKd.out, List.length_drop, HKl.out]
              rw [List.take_of_length_le (by rw [HT9.out]; exact Nat.le_refl _)] at T9
              have HM1 : Hid (∀ x ∈ k1, x ∈ l) := fun x hx => HKm.out x (by rw [← HKd.out] at hx; exact List.mem_of_mem_drop hx)
              have q14 : (1 : Int) ≤ (nl : Int) := by omega
              have q15 : 1 ≤ nl := by omega
              have q16 : ¬ c6 = 1 := by omega
              have q17 : (nl : Int) ≤ (c6 : Int) := by omega
              have q18 : (1 : Int) ≤ (c6 : Int) := by omega
              go_wp2_with fail
              have D3 := HCC.out k1 _ _ T9 (.inr ⟨_, _, _, rfl⟩) HM1.out (by rw [HT9.out]; omega)
              rw [HE3.out] at D3
              refine D3.mono ?_
              rintro e w10 ⟨rfl, b10⟩
              go_wp2_with fail
              go_ret
              exact ⟨rfl, bel_trans B9 b10⟩
  · rw [decide_eq_false h1] at HF
    obtain ⟨al, cl, rfl, il, jl, kl⟩ := Tl.len
    obtain ⟨nl, hnl⟩ : ∃ nl, l.length = nl := ⟨_, rfl⟩
    rw [hnl] at Tl HF il kl ⊢
    clear hnl
    go_enter Try.func8, Try.ntmps8
    go_wp2_with fail
    refine (HSh.out _ (Below.refl w.heap.size w)).mono ?_
    rintro e w1 ⟨rfl, b1⟩
    have B1 := bel_trans (Below.refl w.heap.size w) b1
    go_wp2_with fail
    refine (HF.out _ B1).mono ?_
    rintro e w2 ⟨rfl, b2⟩
    have B2 := bel_trans B1 b2
    go_wp2_with fail
    go_ret
    exact ⟨rfl, B2⟩
end Go.Proofs.Ytpfpkpaodlmlaaa
