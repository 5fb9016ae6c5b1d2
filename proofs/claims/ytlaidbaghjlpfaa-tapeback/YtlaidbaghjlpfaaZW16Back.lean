/-
  The walk of TapeBack.
-/
import Derived.Test.YtlaidbaghjlpfaaZLoop16
import Derived.Deep.CutRange
namespace Go.Proofs.Ytlaidbaghjlpfaa
set_option maxRecDepth 100000
open Go.RowKit
set_option linter.unusedVariables false
attribute [local go_sem] ba_size ba_append
set_option maxHeartbeats 4000000 in
theorem back16_walk (l : List (List UInt8)) (v : Value) (w : World) (hT : IsTxt w v l) : Calls Try.prog 6 #[v] w fun e w' => e = .returned (.bool true) ∧ Below w.heap.size w w' := by
  have hT0 := hT
  obtain ⟨a, cap, rfl, k1, k2, k3, HC⟩ := hT.some_at
  have hbd := hT.bound
  obtain ⟨n, hn⟩ : ∃ n, l.length = n := ⟨_, rfl⟩
  have HN := Lib.hid hn
  rw [hn] at k1 k3 ⊢
  have C1 := fun W => pn16 16777216 (s' := []) (p' := []) (r' := 16777216) (f' := -1) (o' := false) (e := 0) (by decide) W
  have HT := Lib.hid hT0
  have HBD := Lib.hid hbd
  clear hT hT0 hn hbd
  go_enter Try.func6, Try.ntmps6
  go_wp2_with fail
  refine (shown16_any _).mono ?_
  rintro e w_1 ⟨rfl, b_1⟩
  have B1 := (Below.refl w.heap.size w).trans (b_1.mono (Below.refl w.heap.size w).size)
  clear b_1
  go_wp2_with fail
  refine (C1 _).mono ?_
  rintro e w_2 ⟨rfl, b_2⟩
  have B2 := B1.trans (b_2.mono B1.size)
  clear B1
  clear b_2
  have X_t := SBox.new w_2 23 #[.string ⟨#[]⟩, .string ⟨#[]⟩, .int .i64 16777216, .int .i64 (-1), .bool false]
  have l_t := B2.size
  have B3 := B2.alloc B2.size (.cells #[.string ⟨#[]⟩, .string ⟨#[]⟩, .int .i64 16777216, .int .i64 (-1), .bool false] 23)
  clear B2
  obtain ⟨b4, hb4⟩ : ∃ b4, w_2.heap.size = b4 := ⟨_, rfl⟩
  have HL4 : w.heap.size ≤ b4 := by omega
  have BT := Lib.hid B3
  have XT := Lib.hid X_t
  clear B3 X_t
  by_cases hbig : 100 < n
  · have j1 : (100 : Int) < (n : Int) := by omega
    go_wp2_with fail
    go_ret
    exact ⟨rfl, BT.out⟩
  · have j1 : ¬ (100 : Int) < (n : Int) := by omega
    go_wp2_with fail
    have XT1 := XT.out
    have BT1 := BT.out
    rw [hb4] at XT1
    clear hb4 BT XT
    clear C1
    go_loopw [6] (fun i wr => ∃ k : Nat, k ≤ n ∧ i = .int .i64 k ∧ Below w.heap.size w wr ∧ SBox wr b4 23 #[.string ⟨#[]⟩, .string ⟨(Lm.body (l.take k)).toArray⟩, .int .i64 (16777216 - ((Lm.body (l.take k)).length : Int)), .int .i64 (-1), .bool false] ∧ Hid (∀ t ∈ l.take k, t.length ≤ 65535)) (fun i _ => n - (intOf i).toNat)
    case atStart => exact ⟨0, Nat.zero_le _, rfl, BT1, XT1, (by intro t ht; simp at ht)⟩
    case round =>
      obtain ⟨k, hk, rfl, hB, hX, HS⟩ := hrel
      by_cases hlt : k < n
      · have hk1 : k < l.length := by rw [HN.out]; exact hlt
        obtain ⟨bb, off, rfl, hblt, hcell⟩ := HC.out k hk1
        obtain ⟨hq, q', r', E, hW, HE⟩ := back_step l k hk1 (by rw [HN.out]; omega) HS.out
        have hbd := HBD.out l[k] (List.getElem_mem hk1)
        obtain ⟨rec, hrec⟩ : ∃ rec, l[k] = rec := ⟨_, rfl⟩
        obtain ⟨q, hqq⟩ : ∃ q, Lm.body (l.take k) = q := ⟨_, rfl⟩
        rw [hrec] at hcell hW HE hbd
        rw [hqq] at hW hX hq
        have C := Lib.hid (fun W => pw16 (s := []) (p := q) (r := 16777216 - (q.length : Int)) (f := -1) (o := false) (rec := rec) ⟨⟨by simp only; omega, by simp only; omega⟩, ⟨by simp only; omega, by simp only; omega⟩, by simp, by simp only; omega⟩ (by omega) hW W)
        obtain ⟨r, hr⟩ : ∃ r, 16777216 - (q.length : Int) = r := ⟨_, rfl⟩
        rw [hr] at C hX
        have HE0 := Lib.hid HE
        have i0 : (k : Int) < (n : Int) := by omega
        have c0 := (hB.cell (p := ⟨bb, off + k, none⟩) hblt).trans hcell
        have hcell0 := hcell
        clear hW HE hq hqq hr hcell hbd hrec
        go_upto_region 8 with fail
        have HC0 := Lib.hid hcell0
        go_cut [7, 8] from 33 to 41 (fun s7 s8 W => ∃ b7, s7 = .pointer (some ⟨b7, 0, none⟩) ∧ s8 = .int .i64 E ∧ KE w W b4 b7 #[.string ⟨#[]⟩, .string ⟨q.toArray⟩, .int .i64 r, .int .i64 (-1), .bool false] #[.string ⟨#[]⟩, .string ⟨q'.toArray⟩, .int .i64 r', .int .i64 (-1), .bool false])
        case first =>
          refine wp_region_any (by kernel_rfl) ?_
          change wpAny _ _ _ _ _ _ _ (World.drew _)
          generalize hwd : World.drew _ = wd
          have T : KS w wd b4 #[.string ⟨#[]⟩, .string ⟨q.toArray⟩, .int .i64 r, .int .i64 (-1), .bool false] none := by rw [← hwd]; exact ⟨hB.drew, hX, fun b e => (by cases e)⟩
          clear hwd hB hX c0
          have HCC : Hid (∀ V, Below w.heap.size w V → V.cell? ⟨bb, off + k, none⟩ = some (.string ⟨rec.toArray⟩)) := fun V hV => (hV.cell (p := ⟨bb, off + k, none⟩) hblt).trans HC0.out
          refine any_of_C (C := fun V => SBox V b4 23 #[.string ⟨#[]⟩, .string ⟨q.toArray⟩, .int .i64 r, .int .i64 (-1), .bool false] ∧ V.cell? ⟨bb, off + k, none⟩ = some (.string ⟨rec.toArray⟩)) 11 _ _ _ _ ?_
          refine takeD 0 (.agg #[.string ⟨#[]⟩, .string ⟨q.toArray⟩, .int .i64 r, .int .i64 (-1), .bool false]) rfl (by kernel_rfl) (fun _ _ _ h => h) (fun V hV => by obtain ⟨hV, cz⟩ := hV; have y0 := hV.cell 0 _ rfl; have y1 := hV.cell 1 _ rfl; have y2 := hV.cell 2 _ rfl; have y3 := hV.cell 3 _ rfl; have y4 := hV.cell 4 _ rfl; go_simp) ?_
          refine takeD 1 (.slice (some ⟨bb, off, none⟩) n cap) rfl (by kernel_rfl) (fun _ _ _ h => h) (fun V hV => by obtain ⟨hV, cz⟩ := hV; have y0 := hV.cell 0 _ rfl; have y1 := hV.cell 1 _ rfl; have y2 := hV.cell 2 _ rfl; have y3 := hV.cell 3 _ rfl; have y4 := hV.cell 4 _ rfl; go_simp) ?_
          refine takeD 2 (.int .i64 (k : Int)) rfl (by kernel_rfl) (fun _ _ _ h => h) (fun V hV => by obtain ⟨hV, cz⟩ := hV; have y0 := hV.cell 0 _ rfl; have y1 := hV.cell 1 _ rfl; have y2 := hV.cell 2 _ rfl; have y3 := hV.cell 3 _ rfl; have y4 := hV.cell 4 _ rfl; go_simp) ?_
          refine takeD 3 (.pointer (some ⟨bb, off + k, none⟩)) rfl (by kernel_rfl) (fun _ _ _ h => h) (fun V hV => by obtain ⟨hV, cz⟩ := hV; have y0 := hV.cell 0 _ rfl; have y1 := hV.cell 1 _ rfl; have y2 := hV.cell 2 _ rfl; have y3 := hV.cell 3 _ rfl; have y4 := hV.cell 4 _ rfl; go_simp) ?_
          refine takeD 4 (.string ⟨rec.toArray⟩) rfl (by kernel_rfl) (fun _ _ _ h => h) (fun V hV => by obtain ⟨hV, cz⟩ := hV; have y0 := hV.cell 0 _ rfl; have y1 := hV.cell 1 _ rfl; have y2 := hV.cell 2 _ rfl; have y3 := hV.cell 3 _ rfl; have y4 := hV.cell 4 _ rfl; go_simp) ?_
          refine fork2 (i := 5) (j := 9) (by kernel_rfl) (by kernel_rfl) ⟨T.x4, HCC.out _ T.bel⟩ rfl rfl (fun K hK => ?_) (fun K hK => ?_)
          · skip
            go_wp2_with fail
            refine (C.out _).mono ?_
            rintro e W1 ⟨rfl, b1⟩
            replace T := T.below b1
            clear b1
            go_wp2_with fail
            refine takeD 6 (.tuple #[.agg #[.string ⟨#[]⟩, .string ⟨q'.toArray⟩, .int .i64 r', .int .i64 (-1), .bool false], .int .i64 E]) rfl (by kernel_rfl) (fun _ _ _ h => h) (fun V hV => by go_simp) ?_
            refine takeD 7 (.agg #[.string ⟨#[]⟩, .string ⟨q'.toArray⟩, .int .i64 r', .int .i64 (-1), .bool false]) rfl (by kernel_rfl) (fun _ _ _ h => h) (fun V hV => by go_simp) ?_
            refine takeD 8 (.int .i64 E) rfl (by kernel_rfl) (fun _ _ _ h => h) (fun V hV => by go_simp) ?_
            refine consC (i := 9) (by kernel_rfl) (by kernel_rfl) ⟨T.x4, HCC.out _ T.bel⟩ rfl (fun K hK => ?_)
            go_wp2_with fail
            replace T := T.alloc7
            generalize World.alloc _ _ = W2 at T ⊢
            have g7 := (T.x7 _ rfl).1
            have N := T.put HL4 (.string ⟨#[]⟩) (.string ⟨q'.toArray⟩) (.int .i64 r') (.int .i64 (-1)) (.bool false)
            have p0 := g7.cell 0 _ rfl
            have z0 := g7.frozen 0
            have p1 := g7.cell 1 _ rfl
            have z1 := g7.frozen 1
            have p2 := g7.cell 2 _ rfl
            have z2 := g7.frozen 2
            have p3 := g7.cell 3 _ rfl
            have z3 := g7.frozen 3
            have p4 := g7.cell 4 _ rfl
            have z4 := g7.frozen 4
            have HNN := Lib.hid N
            clear N g7
            refine consC (i := 10) (by kernel_rfl) (by kernel_rfl) ⟨T.x4, HCC.out _ T.bel⟩ rfl (fun K hK => ?_)
            have HT9 := Lib.hid T
            clear T
            go_wp2_with fail
            have N := HNN.out
            clear p0 z0 p1 z1 p2 z2 p3 z3 p4 z4 HNN HT9
            change KE _ (World.setCell _ _ _) _ _ _ _ at N
            generalize World.setCell _ _ _ = WN at N ⊢
            refine lastC (by kernel_rfl) (by kernel_rfl) ⟨N.x4, HCC.out _ N.bel⟩ (of_decide_eq_true (by kernel_rfl)) ?_
            refine any_seqI [11] [_] _ _ _ rfl (by kernel_rfl) ?_
            have HE9 := Lib.hid N
            clear N
            go_wp2_with fail
            go_meet
            exact ⟨_, rfl, rfl, HE9.out⟩
          · skip
            go_wp2_with fail
            replace T := T.alloc7
            generalize World.alloc _ _ = W3 at T ⊢
            refine consC (i := 5) (by kernel_rfl) (by kernel_rfl) ⟨T.x4, HCC.out _ T.bel⟩ rfl (fun K hK => ?_)
            go_wp2_with fail
            refine (C.out _).mono ?_
            rintro e W4 ⟨rfl, b1⟩
            replace T := T.below b1
            clear b1
            go_wp2_with fail
            refine takeD 6 (.tuple #[.agg #[.string ⟨#[]⟩, .string ⟨q'.toArray⟩, .int .i64 r', .int .i64 (-1), .bool false], .int .i64 E]) rfl (by kernel_rfl) (fun _ _ _ h => h) (fun V hV => by go_simp) ?_
            refine takeD 7 (.agg #[.string ⟨#[]⟩, .string ⟨q'.toArray⟩, .int .i64 r', .int .i64 (-1), .bool false]) rfl (by kernel_rfl) (fun _ _ _ h => h) (fun V hV => by go_simp) ?_
            refine takeD 8 (.int .i64 E) rfl (by kernel_rfl) (fun _ _ _ h => h) (fun V hV => by go_simp) ?_
            have g7 := (T.x7 _ rfl).1
            have N := T.put HL4 (.string ⟨#[]⟩) (.string ⟨q'.toArray⟩) (.int .i64 r') (.int .i64 (-1)) (.bool false)
            have p0 := g7.cell 0 _ rfl
            have z0 := g7.frozen 0
            have p1 := g7.cell 1 _ rfl
            have z1 := g7.frozen 1
            have p2 := g7.cell 2 _ rfl
            have z2 := g7.frozen 2
            have p3 := g7.cell 3 _ rfl
            have z3 := g7.frozen 3
            have p4 := g7.cell 4 _ rfl
            have z4 := g7.frozen 4
            have HNN := Lib.hid N
            clear N g7
            refine consC (i := 10) (by kernel_rfl) (by kernel_rfl) ⟨T.x4, HCC.out _ T.bel⟩ rfl (fun K hK => ?_)
            have HT9 := Lib.hid T
            clear T
            go_wp2_with fail
            have N := HNN.out
            clear p0 z0 p1 z1 p2 z2 p3 z3 p4 z4 HNN HT9
            change KE _ (World.setCell _ _ _) _ _ _ _ at N
            generalize World.setCell _ _ _ = WN at N ⊢
            refine lastC (by kernel_rfl) (by kernel_rfl) ⟨N.x4, HCC.out _ N.bel⟩ (of_decide_eq_true (by kernel_rfl)) ?_
            refine any_seqI [11] [_] _ _ _ rfl (by kernel_rfl) ?_
            have HE9 := Lib.hid N
            clear N
            go_wp2_with fail
            go_meet
            exact ⟨_, rfl, rfl, HE9.out⟩
        obtain ⟨b7, rfl, rfl, N⟩ := hcut
        have BN := N.bel
        have X4 := N.x4
        have X7 := N.x7
        have hne : ¬ b4 = b7 := by have := N.lt; omega
        have cz := (BN.cell (p := ⟨bb, off + k, none⟩) hblt).trans HC0.out
        clear N hB hX c0 C
        have u0 := X4.cell 0 _ rfl
        have fu0 := X4.frozen 0
        have v0 := X7.cell 0 _ rfl
        have fv0 := X7.frozen 0
        have u1 := X4.cell 1 _ rfl
        have fu1 := X4.frozen 1
        have v1 := X7.cell 1 _ rfl
        have fv1 := X7.frozen 1
        have u2 := X4.cell 2 _ rfl
        have fu2 := X4.frozen 2
        have v2 := X7.cell 2 _ rfl
        have fv2 := X7.frozen 2
        have u3 := X4.cell 3 _ rfl
        have fu3 := X4.frozen 3
        have v3 := X7.cell 3 _ rfl
        have fv3 := X7.frozen 3
        have u4 := X4.cell 4 _ rfl
        have fu4 := X4.frozen 4
        have v4 := X7.cell 4 _ rfl
        have fv4 := X7.frozen 4
        rcases HE0.out with ⟨rfl, e1, e2, e3⟩ | ⟨rfl, e1⟩
        · have HE1 := Lib.hid e1
          have HE2 := Lib.hid e2
          have HE3 := Lib.hid e3
          clear e1 e2 e3 HE0
          go_wp2_with fail
          go_roundw
          case rel => exact ⟨k + 1, by omega, by first | go_num | simp, bel_put5 BN HL4 _ _ _ _ _, by rw [← HE2.out, ← HE1.out]; exact X4.put5 _ _ _ _ _, HE3.out⟩
          case measure => simp [intOf]; omega
        · have j2 : (65535 : Int) < (rec.length : Int) := by omega
          clear HE0
          go_wp2_with fail
          go_ret
          exact ⟨rfl, BN⟩
      · obtain rfl : k = n := by omega
        have hS := HS.out
        rw [List.take_of_length_le (by rw [HN.out]; exact Nat.le_refl _)] at hX hS
        have hbl : (Lm.body l).length ≤ 6553800 := by
          have hh : ∀ L : List (List UInt8), (∀ t ∈ L, t.length ≤ 65535) → (Lm.body L).length ≤ L.length * 65538 := by
            intro L
            induction L with
            | nil => intro _; exact Nat.le_refl _
            | cons t r ih =>
              intro h
              have h1 := h t (by simp)
              have h2 := ih (fun x hx => h x (by simp [hx]))
              have h3 := Lm.lenL_le t.length
              simp only [Lm.body, List.length_append, List.length_cons]
              omega
          have := hh l hS
          have := HN.out
          omega
        have hrd : readT ([], Lm.body l, 16777216 - ((Lm.body l).length : Int), -1, false) = l := by
          show Lm.recsL ([] ++ Lm.body l) = l
          rw [List.nil_append]
          exact (Lm.recs_body l hS).1
        have C := Lib.hid (fun W => pr16 l ⟨⟨by simp only; omega, by simp only; omega⟩, ⟨by simp only; omega, by simp only; omega⟩, by simp, by simp only; omega⟩ hrd W)
        have HSl := Lib.hid hS
        have u0 := hX.cell 0 _ rfl
        have u1 := hX.cell 1 _ rfl
        have u2 := hX.cell 2 _ rfl
        have u3 := hX.cell 3 _ rfl
        have u4 := hX.cell 4 _ rfl
        clear hrd hbl hS
        go_wp2_with fail
        refine (C.out _).mono ?_
        rintro e w9 ⟨v9, rfl, b9, R9⟩
        have B9 := hB.trans (b9.mono hB.size)
        have D := same_txt _ _ l l w9 (R9.txt (by rw [HN.out]; omega) HSl.out) (HT.out.below B9)
        rw [decide_eq_true rfl] at D
        rw [HN.out] at D
        clear R9
        go_wp2_with fail
        refine D.mono ?_
        rintro e w10 ⟨rfl, b10⟩
        have BY := B9.trans (b10.mono B9.size)
        clear D
        go_wp2_with fail
        go_ret
        exact ⟨rfl, BY⟩
end Go.Proofs.Ytlaidbaghjlpfaa
