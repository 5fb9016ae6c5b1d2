/-
  What cartoucheref17.Open answers.
-/
import Derived.Test.YtngllioidfffdaaZR17Does
import Derived.Test.YtngllioidfffdaaGX
import Derived.Test.YtngllioidfffdaaZP17Open
import Derived.Test.YtngllioidfffdaaGR
namespace Go.Proofs.Ytngllioidfffdaa
set_option maxRecDepth 100000
open Go.RowKit
set_option linter.unusedVariables false
attribute [local go_sem] ba_size
theorem cell_lt17 {W : World} {a : Addr} {u : Value} (h : W.cell? a = some u) : a.block < W.heap.size := by
  rcases Nat.lt_or_ge a.block W.heap.size with h' | h'
  · exact h'
  · simp [World.cell?, Array.getElem?_eq_none h'] at h
theorem cell_put8 {W : World} {k : Nat} {a : Addr} {u : Value} (h : W.cell? a = some u) (hk : a.block ≠ k) (v0 v1 v2 v3 v4 v5 v6 v7 : Value) :
    ((((((((W.setCell ⟨k, 0, none⟩ v0).setCell ⟨k, 1, none⟩ v1).setCell ⟨k, 2, none⟩ v2).setCell ⟨k, 3, none⟩ v3).setCell ⟨k, 4, none⟩ v4).setCell ⟨k, 5, none⟩ v5).setCell ⟨k, 6, none⟩ v6).setCell ⟨k, 7, none⟩ v7).cell? a = some u := by
  have g : ∀ (W : World) (j : Nat) (v : Value), (W.setCell ⟨k, j, none⟩ v).cell? a = W.cell? a := fun W j v => World.cell?_of_block (Below.heap_setCell W ⟨k, j, none⟩ v a.block hk)
  simp only [g]
  exact h
set_option maxHeartbeats 8000000 in
theorem ropen17_any (s p : List UInt8) (r f : Int) (o : Bool) (hs : s.length + p.length ≤ 8796093021952) (w : World) :
    Calls Try.prog 26 #[tpV (s, p, r, f, o)] w fun e w' => OpenRes w (openS (s, p, r, f, o)) e w' := by
  unfold OpenRes StoRes tpV tpC
  cases o with
  | true =>
    rw [open_off _ rfl]
    unfold stC
    simp only
    go_enter Try.func26, Try.ntmps26
    go_wp2_with fail
    exact bodyPost_ret (results_st2 Try.results26 _ _ (w.heap.size + 1) _ rfl rfl (sbox2 _ _ _ _)) rfl ⟨_, _, _, rfl, bel2 w _ _, _, fun V _ h => h⟩
  | false =>
    obtain ⟨L, hL⟩ : ∃ L, Lm.recsL (s ++ p) = L := ⟨_, rfl⟩
    have HL : Hid (Lm.recsL (s ++ p) = L) := hL
    have hR : Hid (readT (s, p, r, f, false) = L) := hL
    obtain ⟨n, hn⟩ : ∃ n, L.length = n := ⟨_, rfl⟩
    have HN : Hid (L.length = n) := hn
    have hnb : n ≤ 8796093021952 := by rw [← hn, ← hL]; exact Nat.le_trans (Lm.recs_few _) (by rw [List.length_append]; exact hs)
    have C := fun W => rread16_any s p r f false hs W
    rw [hL] at C
    have B0 := bel3 w (.cells #[.string ⟨s.toArray⟩, .string ⟨p.toArray⟩, .int .i64 r, .int .i64 f, .bool false] 23) (.cells zS17 28) (.cells #[.string ⟨s.toArray⟩, .string ⟨p.toArray⟩, .int .i64 r, .int .i64 f, .bool false, .slice none 0 0, .slice none 0 0, .slice none 0 0] 28)
    have R := (sbox2 w (.cells #[.string ⟨s.toArray⟩, .string ⟨p.toArray⟩, .int .i64 r, .int .i64 f, .bool false] 23) 28 zS17).alloc (.cells #[.string ⟨s.toArray⟩, .string ⟨p.toArray⟩, .int .i64 r, .int .i64 f, .bool false, .slice none 0 0, .slice none 0 0, .slice none 0 0] 28)
    have S := sbox3 w (.cells #[.string ⟨s.toArray⟩, .string ⟨p.toArray⟩, .int .i64 r, .int .i64 f, .bool false] 23) (.cells zS17 28) 28 #[.string ⟨s.toArray⟩, .string ⟨p.toArray⟩, .int .i64 r, .int .i64 f, .bool false, .slice none 0 0, .slice none 0 0, .slice none 0 0]
    have hsp := Lib.hid hs
    clear hL hn hs
    go_enter Try.func26, Try.ntmps26
    go_wp2_with fail
    refine (C _).mono ?_
    rintro e1 w1 ⟨v, rfl, bb, ow⟩
    replace R := R.below bb
    replace S := S.below bb
    replace B0 := B0.trans (bb.mono B0.size)
    replace ow := owns_low ow (B' := w.heap.size + 2 + 1) (by simp only [World.size_alloc]; omega)
    obtain ⟨ga, gc, rfl, hgc⟩ := own_slice9 ow
    rw [HN.out] at hgc
    have O0 : Hid (OpS w w1 (w.heap.size + 2) (s, p, r, f, false) (.slice ga L.length gc) L 0 (.slice none 0 0) (.slice none 0 0) (.slice none 0 0) [] ([], [], [])) := ⟨B0, R, S, ow, rfl, fun V _ => StIn.zero V⟩
    rw [HN.out] at O0
    clear C R S B0 bb
    simp only [HN.out]
    go_wp2_with fail
    go_loopw [6] (fun i wr => ∃ (k : Nat) (uo uh uc : Value) (G : List Value) (y : Sd), k ≤ n ∧ i = .int .i64 k ∧ Hid (OpS w wr (w.heap.size + 2) (s, p, r, f, false) (.slice ga n gc) L k uo uh uc G y)) (fun i _ => n - (intOf i).toNat)
    case atStart => exact ⟨0, _, _, _, _, _, Nat.zero_le _, rfl, O0⟩
    case round =>
      obtain ⟨k, uo, uh, uc, G, y, hk, rfl, OK⟩ := hrel
      obtain ⟨ao, no, co, ah, nh, ch, ac, nc, cc, rfl, rfl, rfl⟩ := (OK.out.st _ (Agr.refl _ _)).slices
      by_cases hlt : k < n
      · have hk1 : k < L.length := by rw [HN.out]; exact hlt
        have HT : IsTxt wr (.slice ga n gc) L := by rw [← HL.out]; exact OpS.txt (by rw [HL.out]; exact OK.out) (by rw [List.length_append]; have := hsp.out; omega)
        obtain ⟨a', cap', e0, _, _, _, HC⟩ := HT.some_at
        simp only [Value.slice.injEq] at e0
        obtain ⟨rfl, e9, rfl⟩ := e0
        clear e9
        obtain ⟨bb, off, rfl, hblt, cell⟩ := HC.out k hk1
        obtain ⟨rec, hrec⟩ : ∃ rec, L[k] = rec := ⟨_, rfl⟩
        have HRC : Hid (L[k] = rec) := hrec
        have hrl : rec.length ≤ 1125899906842624 := by rw [← hrec]; exact HT.bound _ (List.getElem_mem hk1)
        rw [hrec] at cell
        clear hrec HC HT
        have R := OK.out.br
        have X := OK.out.bs
        have hb0 := OK.out.bel.size
        have hst := Lib.hid OK.out.st
        have O := OK.out.row
        rw [HN.out] at O
        have BW := OK.out.bel
        unfold stC at X
        have kx0 := X.cell 0 _ rfl
        have kx1 := X.cell 1 _ rfl
        have kx2 := X.cell 2 _ rfl
        have kx3 := X.cell 3 _ rfl
        have kx4 := X.cell 4 _ rfl
        have kx5 := X.cell 5 _ rfl
        have kx6 := X.cell 6 _ rfl
        have kx7 := X.cell 7 _ rfl
        have fkx0 := X.frozen 0
        have fkx1 := X.frozen 1
        have fkx2 := X.frozen 2
        have fkx3 := X.frozen 3
        have fkx4 := X.frozen 4
        have fkx5 := X.frozen 5
        have fkx6 := X.frozen 6
        have fkx7 := X.frozen 7
        go_wp2_with fail
        clear kx0 fkx0 kx1 fkx1 kx2 fkx2 kx3 fkx3 kx4 fkx4 kx5 fkx5 kx6 fkx6 kx7 fkx7
        refine wp_region_any (by kernel_rfl) ?_
        change wpAny _ _ _ _ _ _ _ (World.drew _)
        generalize hwd : World.drew _ = wd
        replace X := X.drew
        replace R := R.drew
        replace BW := BW.drew
        have A1 : Agr (w.heap.size + 2 + 1) wr wd := by rw [← hwd]; exact ⟨Nat.le_refl _, fun _ _ _ _ => rfl⟩
        replace cell : wd.cell? ⟨bb, off + k, none⟩ = some (.string ⟨rec.toArray⟩) := by rw [← hwd]; exact cell
        replace O : wd.ownsRow (w.heap.size + 2 + 1) 9 1 (.slice (some ⟨bb, off, none⟩) n gc) n (strV L) := by rw [← hwd]; exact O
        rw [hwd] at X R BW
        clear hwd
        refine any_of_C (C := (fun V => SBox V (w.heap.size + 2) 28 #[.string ⟨s.toArray⟩, .string ⟨p.toArray⟩, .int .i64 r, .int .i64 f, .bool false, .slice ao no co, .slice ah nh ch, .slice ac nc cc] ∧ V.cell? ⟨bb, off + k, none⟩ = some (.string ⟨rec.toArray⟩))) 11 _ _ _ _ ?_
        refine takeD 0 (.agg #[.string ⟨s.toArray⟩, .string ⟨p.toArray⟩, .int .i64 r, .int .i64 f, .bool false, .slice ao no co, .slice ah nh ch, .slice ac nc cc]) rfl (by kernel_rfl) (fun _ _ _ h => h) (fun V hV => by have hV0 := hV.1; have hV1 := hV.2; have ky0 := hV0.cell 0 _ rfl; have ky1 := hV0.cell 1 _ rfl; have ky2 := hV0.cell 2 _ rfl; have ky3 := hV0.cell 3 _ rfl; have ky4 := hV0.cell 4 _ rfl; have ky5 := hV0.cell 5 _ rfl; have ky6 := hV0.cell 6 _ rfl; have ky7 := hV0.cell 7 _ rfl; go_simp) ?_
        refine takeD 1 (.slice (some ⟨bb, off, none⟩) n gc) rfl (by kernel_rfl) (fun _ _ _ h => h) (fun V hV => by have hV0 := hV.1; have hV1 := hV.2; have ky0 := hV0.cell 0 _ rfl; have ky1 := hV0.cell 1 _ rfl; have ky2 := hV0.cell 2 _ rfl; have ky3 := hV0.cell 3 _ rfl; have ky4 := hV0.cell 4 _ rfl; have ky5 := hV0.cell 5 _ rfl; have ky6 := hV0.cell 6 _ rfl; have ky7 := hV0.cell 7 _ rfl; go_simp) ?_
        refine takeD 2 (.int .i64 (k : Int)) rfl (by kernel_rfl) (fun _ _ _ h => h) (fun V hV => by have hV0 := hV.1; have hV1 := hV.2; have ky0 := hV0.cell 0 _ rfl; have ky1 := hV0.cell 1 _ rfl; have ky2 := hV0.cell 2 _ rfl; have ky3 := hV0.cell 3 _ rfl; have ky4 := hV0.cell 4 _ rfl; have ky5 := hV0.cell 5 _ rfl; have ky6 := hV0.cell 6 _ rfl; have ky7 := hV0.cell 7 _ rfl; go_simp) ?_
        refine takeD 3 (.pointer (some ⟨bb, off + k, none⟩)) rfl (by kernel_rfl) (fun _ _ _ h => h) (fun V hV => by have hV0 := hV.1; have hV1 := hV.2; have ky0 := hV0.cell 0 _ rfl; have ky1 := hV0.cell 1 _ rfl; have ky2 := hV0.cell 2 _ rfl; have ky3 := hV0.cell 3 _ rfl; have ky4 := hV0.cell 4 _ rfl; have ky5 := hV0.cell 5 _ rfl; have ky6 := hV0.cell 6 _ rfl; have ky7 := hV0.cell 7 _ rfl; go_simp) ?_
        refine takeD 4 (.string ⟨rec.toArray⟩) rfl (by kernel_rfl) (fun _ _ _ h => h) (fun V hV => by have hV0 := hV.1; have hV1 := hV.2; have ky0 := hV0.cell 0 _ rfl; have ky1 := hV0.cell 1 _ rfl; have ky2 := hV0.cell 2 _ rfl; have ky3 := hV0.cell 3 _ rfl; have ky4 := hV0.cell 4 _ rfl; have ky5 := hV0.cell 5 _ rfl; have ky6 := hV0.cell 6 _ rfl; have ky7 := hV0.cell 7 _ rfl; go_simp) ?_
        refine fork2 (i := 5) (j := 9) (by kernel_rfl) (by kernel_rfl) ⟨X, cell⟩ rfl rfl (fun K hK => ?_) (fun K hK => ?_)
        · skip
          go_wp2_with fail
          have hm0 : w.heap.size + 2 + 1 ≤ wd.heap.size := X.lt
          refine (rdoes17_any s p r f false _ _ _ G y rec hrl _ (hst.out _ A1)).mono ?_
          rintro e2 w2 ⟨bo0, bh0, bc0, rfl, b2, G2, hT⟩
          replace cell := cell_bel b2 cell
          replace X := X.below b2
          replace R := R.below b2
          replace O := owns_below O b2
          replace BW := BW.trans (b2.mono BW.size)
          replace A1 := A1.trans (Agr.below b2)
          obtain ⟨bo, mo, dq, bh, mh, dh, bc, mc, dc, rfl, rfl, rfl⟩ := (hT _ (Agr.refl _ _) (hst.out _ A1)).slices
          simp only [stC]
          have A2 := agrOf hT
          have lm := Lib.hid hm0
          replace hT := Lib.hid hT
          clear b2
          obtain ⟨b0, hb0⟩ : ∃ b0, (doesR y rec).1 = b0 := ⟨_, rfl⟩
          rw [hb0]
          replace hb0 := Lib.hid hb0
          go_wp2_with fail
          refine takeD 6 (.tuple #[.agg #[.string ⟨s.toArray⟩, .string ⟨p.toArray⟩, .int .i64 r, .int .i64 f, .bool false, .slice bo mo dq, .slice bh mh dh, .slice bc mc dc], .bool b0]) rfl (by kernel_rfl) (fun _ _ _ h => h) (fun V hV => by go_simp) ?_
          refine takeD 7 (.agg #[.string ⟨s.toArray⟩, .string ⟨p.toArray⟩, .int .i64 r, .int .i64 f, .bool false, .slice bo mo dq, .slice bh mh dh, .slice bc mc dc]) rfl (by kernel_rfl) (fun _ _ _ h => h) (fun V hV => by go_simp) ?_
          refine takeD 8 (.bool b0) rfl (by kernel_rfl) (fun _ _ _ h => h) (fun V hV => by go_simp) ?_
          refine consC (i := 9) (by kernel_rfl) (by kernel_rfl) ⟨X, cell⟩ rfl (fun K hK => ?_)
          go_wp2_with fail
          have Q := SBox.new w2 28 zS17
          have hq := X.lt
          have hbq := cell_lt17 cell
          replace cell := cell_bel ((Below.refl _ _).alloc (Nat.le_refl _) (.cells zS17 28)) cell
          replace X := X.alloc (.cells zS17 28)
          replace R := R.alloc (.cells zS17 28)
          replace O := O.alloc (.cells zS17 28)
          replace A1 := A1.trans (Agr.below ((Below.refl _ _).alloc (Nat.le_refl _) (.cells zS17 28)))
          replace A2 := A2.trans (Agr.below ((Below.refl _ _).alloc (Nat.le_refl _) (.cells zS17 28)))
          replace BW := BW.alloc BW.size (.cells zS17 28)
          obtain ⟨q, hqq⟩ : ∃ q, w2.heap.size = q := ⟨_, rfl⟩
          rw [hqq] at Q hq hbq ⊢
          clear hqq
          generalize World.alloc w2 (.cells zS17 28) = WA at Q X R O A1 BW cell A2 ⊢
          go_wp2_with fail
          refine consC (i := 10) (by kernel_rfl) (by kernel_rfl) ⟨X, cell⟩ rfl (fun K hK => ?_)
          have kq0 := Q.cell 0 _ rfl
          have kq1 := Q.cell 1 _ rfl
          have kq2 := Q.cell 2 _ rfl
          have kq3 := Q.cell 3 _ rfl
          have kq4 := Q.cell 4 _ rfl
          have kq5 := Q.cell 5 _ rfl
          have kq6 := Q.cell 6 _ rfl
          have kq7 := Q.cell 7 _ rfl
          have fkq0 := Q.frozen 0
          have fkq1 := Q.frozen 1
          have fkq2 := Q.frozen 2
          have fkq3 := Q.frozen 3
          have fkq4 := Q.frozen 4
          have fkq5 := Q.frozen 5
          have fkq6 := Q.frozen 6
          have fkq7 := Q.frozen 7
          go_wp2_with fail
          clear kq0 fkq0 kq1 fkq1 kq2 fkq2 kq3 fkq3 kq4 fkq4 kq5 fkq5 kq6 fkq6 kq7 fkq7
          have nq : q ≠ w.heap.size + 2 := by omega
          replace A2 := A2.setS8 Q (.string ⟨s.toArray⟩) (.string ⟨p.toArray⟩) (.int .i64 r) (.int .i64 f) (.bool false) (.slice bo mo dq) (.slice bh mh dh) (.slice bc mc dc)
          replace A1 := A1.setS8 Q (.string ⟨s.toArray⟩) (.string ⟨p.toArray⟩) (.int .i64 r) (.int .i64 f) (.bool false) (.slice bo mo dq) (.slice bh mh dh) (.slice bc mc dc)
          replace O := owns_agr O (Nat.le_refl _) (by decide) ((Agr.refl _ _).setS8 Q (.string ⟨s.toArray⟩) (.string ⟨p.toArray⟩) (.int .i64 r) (.int .i64 f) (.bool false) (.slice bo mo dq) (.slice bh mh dh) (.slice bc mc dc))
          replace cell := cell_put8 (k := q) cell (by show bb ≠ q; have : bb < q := hbq; omega) (.string ⟨s.toArray⟩) (.string ⟨p.toArray⟩) (.int .i64 r) (.int .i64 f) (.bool false) (.slice bo mo dq) (.slice bh mh dh) (.slice bc mc dc)
          replace BW := bel_put8 (B := q) BW (by omega) (.string ⟨s.toArray⟩) (.string ⟨p.toArray⟩) (.int .i64 r) (.int .i64 f) (.bool false) (.slice bo mo dq) (.slice bh mh dh) (.slice bc mc dc)
          replace X := SBox.other8 (k := q) X nq (.string ⟨s.toArray⟩) (.string ⟨p.toArray⟩) (.int .i64 r) (.int .i64 f) (.bool false) (.slice bo mo dq) (.slice bh mh dh) (.slice bc mc dc)
          replace R := SBox.other8 (k := q) R (by omega) (.string ⟨s.toArray⟩) (.string ⟨p.toArray⟩) (.int .i64 r) (.int .i64 f) (.bool false) (.slice bo mo dq) (.slice bh mh dh) (.slice bc mc dc)
          replace Q := Q.put8 (.string ⟨s.toArray⟩) (.string ⟨p.toArray⟩) (.int .i64 r) (.int .i64 f) (.bool false) (.slice bo mo dq) (.slice bh mh dh) (.slice bc mc dc)
          refine lastC (by kernel_rfl) (by kernel_rfl) ⟨X, cell⟩ (of_decide_eq_true (by kernel_rfl)) ?_
          refine any_seqI [11] [_] _ _ _ rfl (by kernel_rfl) ?_
          cases hd : doesS y rec with
          | none =>
            rw [doesR_no hd] at hb0
            obtain rfl := hb0.out
            have HY : Hid (openS (s, p, r, f, false) = (zeroS, 3)) := open_odd _ rfl (by rw [hR.out]; exact fold_odd hk1 OK.out.fo (by rw [HRC.out]; exact hd))
            clear hd hb0
            have kx0 := X.cell 0 _ rfl
            have kx1 := X.cell 1 _ rfl
            have kx2 := X.cell 2 _ rfl
            have kx3 := X.cell 3 _ rfl
            have kx4 := X.cell 4 _ rfl
            have kx5 := X.cell 5 _ rfl
            have kx6 := X.cell 6 _ rfl
            have kx7 := X.cell 7 _ rfl
            have fkx0 := X.frozen 0
            have fkx1 := X.frozen 1
            have fkx2 := X.frozen 2
            have fkx3 := X.frozen 3
            have fkx4 := X.frozen 4
            have fkx5 := X.frozen 5
            have fkx6 := X.frozen 6
            have fkx7 := X.frozen 7
            have kz0 := R.cell 0 _ rfl
            have kz1 := R.cell 1 _ rfl
            have kz2 := R.cell 2 _ rfl
            have kz3 := R.cell 3 _ rfl
            have kz4 := R.cell 4 _ rfl
            have kz5 := R.cell 5 _ rfl
            have kz6 := R.cell 6 _ rfl
            have kz7 := R.cell 7 _ rfl
            have fkz0 := R.frozen 0
            have fkz1 := R.frozen 1
            have fkz2 := R.frozen 2
            have fkz3 := R.frozen 3
            have fkz4 := R.frozen 4
            have fkz5 := R.frozen 5
            have fkz6 := R.frozen 6
            have fkz7 := R.frozen 7
            have kq0 := Q.cell 0 _ rfl
            have kq1 := Q.cell 1 _ rfl
            have kq2 := Q.cell 2 _ rfl
            have kq3 := Q.cell 3 _ rfl
            have kq4 := Q.cell 4 _ rfl
            have kq5 := Q.cell 5 _ rfl
            have kq6 := Q.cell 6 _ rfl
            have kq7 := Q.cell 7 _ rfl
            have fkq0 := Q.frozen 0
            have fkq1 := Q.frozen 1
            have fkq2 := Q.frozen 2
            have fkq3 := Q.frozen 3
            have fkq4 := Q.frozen 4
            have fkq5 := Q.frozen 5
            have fkq6 := Q.frozen 6
            have fkq7 := Q.frozen 7
            go_wp2_with fail
            rw [HY.out]
            unfold stC
            simp only
            have BZ := bel_put8 (B := w.heap.size + 1) BW (by omega)
            exact bodyPost_ret (results_st2 Try.results26 _ _ (w.heap.size + 1) _ rfl rfl (R.put8 _ _ _ _ _ _ _ _)) rfl ⟨_, _, _, rfl, BZ _ _ _ _ _ _ _ _, _, fun V _ h => h⟩
          | some z =>
            rw [doesR_yes hd] at hb0 hT
            obtain rfl := hb0.out
            have ON := Lib.hid (OK.out.nextG (by omega) lm.out hk1 (by rw [HRC.out]; exact hd) BW R X (by rw [HN.out]; exact O) A1 A2 hT.out (.string ⟨s.toArray⟩) (.string ⟨p.toArray⟩) (.int .i64 r) (.int .i64 f) (.bool false) (.slice bo mo dq) (.slice bh mh dh) (.slice bc mc dc) rfl)
            clear hd hb0 R O
            have kx0 := X.cell 0 _ rfl
            have kx1 := X.cell 1 _ rfl
            have kx2 := X.cell 2 _ rfl
            have kx3 := X.cell 3 _ rfl
            have kx4 := X.cell 4 _ rfl
            have kx5 := X.cell 5 _ rfl
            have kx6 := X.cell 6 _ rfl
            have kx7 := X.cell 7 _ rfl
            have fkx0 := X.frozen 0
            have fkx1 := X.frozen 1
            have fkx2 := X.frozen 2
            have fkx3 := X.frozen 3
            have fkx4 := X.frozen 4
            have fkx5 := X.frozen 5
            have fkx6 := X.frozen 6
            have fkx7 := X.frozen 7
            have kq0 := Q.cell 0 _ rfl
            have kq1 := Q.cell 1 _ rfl
            have kq2 := Q.cell 2 _ rfl
            have kq3 := Q.cell 3 _ rfl
            have kq4 := Q.cell 4 _ rfl
            have kq5 := Q.cell 5 _ rfl
            have kq6 := Q.cell 6 _ rfl
            have kq7 := Q.cell 7 _ rfl
            have fkq0 := Q.frozen 0
            have fkq1 := Q.frozen 1
            have fkq2 := Q.frozen 2
            have fkq3 := Q.frozen 3
            have fkq4 := Q.frozen 4
            have fkq5 := Q.frozen 5
            have fkq6 := Q.frozen 6
            have fkq7 := Q.frozen 7
            go_wp2_with fail
            go_roundw
            case rel => exact ⟨k + 1, _, _, _, _, _, by omega, by first | go_num | simp, ON⟩
            case measure => simp [intOf]; omega
        · skip
          go_wp2_with fail
          have Q := SBox.new wd 28 zS17
          have hq := X.lt
          have hbq := cell_lt17 cell
          replace cell := cell_bel ((Below.refl _ _).alloc (Nat.le_refl _) (.cells zS17 28)) cell
          replace X := X.alloc (.cells zS17 28)
          replace R := R.alloc (.cells zS17 28)
          replace O := O.alloc (.cells zS17 28)
          replace A1 := A1.trans (Agr.below ((Below.refl _ _).alloc (Nat.le_refl _) (.cells zS17 28)))
          replace BW := BW.alloc BW.size (.cells zS17 28)
          obtain ⟨q, hqq⟩ : ∃ q, wd.heap.size = q := ⟨_, rfl⟩
          rw [hqq] at Q hq hbq ⊢
          clear hqq
          generalize World.alloc wd (.cells zS17 28) = WA at Q X R O A1 BW cell ⊢
          go_wp2_with fail
          refine consC (i := 5) (by kernel_rfl) (by kernel_rfl) ⟨X, cell⟩ rfl (fun K hK => ?_)
          go_wp2_with fail
          have hm0 : w.heap.size + 2 + 1 ≤ WA.heap.size := X.lt
          refine (rdoes17_any s p r f false _ _ _ G y rec hrl _ (hst.out _ A1)).mono ?_
          rintro e2 w2 ⟨bo0, bh0, bc0, rfl, b2, G2, hT⟩
          replace cell := cell_bel b2 cell
          replace X := X.below b2
          replace R := R.below b2
          replace O := owns_below O b2
          replace BW := BW.trans (b2.mono BW.size)
          replace A1 := A1.trans (Agr.below b2)
          replace Q := Q.below b2
          obtain ⟨bo, mo, dq, bh, mh, dh, bc, mc, dc, rfl, rfl, rfl⟩ := (hT _ (Agr.refl _ _) (hst.out _ A1)).slices
          simp only [stC]
          have A2 := agrOf hT
          have lm := Lib.hid hm0
          replace hT := Lib.hid hT
          clear b2
          obtain ⟨b0, hb0⟩ : ∃ b0, (doesR y rec).1 = b0 := ⟨_, rfl⟩
          rw [hb0]
          replace hb0 := Lib.hid hb0
          go_wp2_with fail
          refine takeD 6 (.tuple #[.agg #[.string ⟨s.toArray⟩, .string ⟨p.toArray⟩, .int .i64 r, .int .i64 f, .bool false, .slice bo mo dq, .slice bh mh dh, .slice bc mc dc], .bool b0]) rfl (by kernel_rfl) (fun _ _ _ h => h) (fun V hV => by go_simp) ?_
          refine takeD 7 (.agg #[.string ⟨s.toArray⟩, .string ⟨p.toArray⟩, .int .i64 r, .int .i64 f, .bool false, .slice bo mo dq, .slice bh mh dh, .slice bc mc dc]) rfl (by kernel_rfl) (fun _ _ _ h => h) (fun V hV => by go_simp) ?_
          refine takeD 8 (.bool b0) rfl (by kernel_rfl) (fun _ _ _ h => h) (fun V hV => by go_simp) ?_
          refine consC (i := 10) (by kernel_rfl) (by kernel_rfl) ⟨X, cell⟩ rfl (fun K hK => ?_)
          have kq0 := Q.cell 0 _ rfl
          have kq1 := Q.cell 1 _ rfl
          have kq2 := Q.cell 2 _ rfl
          have kq3 := Q.cell 3 _ rfl
          have kq4 := Q.cell 4 _ rfl
          have kq5 := Q.cell 5 _ rfl
          have kq6 := Q.cell 6 _ rfl
          have kq7 := Q.cell 7 _ rfl
          have fkq0 := Q.frozen 0
          have fkq1 := Q.frozen 1
          have fkq2 := Q.frozen 2
          have fkq3 := Q.frozen 3
          have fkq4 := Q.frozen 4
          have fkq5 := Q.frozen 5
          have fkq6 := Q.frozen 6
          have fkq7 := Q.frozen 7
          go_wp2_with fail
          clear kq0 fkq0 kq1 fkq1 kq2 fkq2 kq3 fkq3 kq4 fkq4 kq5 fkq5 kq6 fkq6 kq7 fkq7
          have nq : q ≠ w.heap.size + 2 := by omega
          replace A2 := A2.setS8 Q (.string ⟨s.toArray⟩) (.string ⟨p.toArray⟩) (.int .i64 r) (.int .i64 f) (.bool false) (.slice bo mo dq) (.slice bh mh dh) (.slice bc mc dc)
          replace A1 := A1.setS8 Q (.string ⟨s.toArray⟩) (.string ⟨p.toArray⟩) (.int .i64 r) (.int .i64 f) (.bool false) (.slice bo mo dq) (.slice bh mh dh) (.slice bc mc dc)
          replace O := owns_agr O (Nat.le_refl _) (by decide) ((Agr.refl _ _).setS8 Q (.string ⟨s.toArray⟩) (.string ⟨p.toArray⟩) (.int .i64 r) (.int .i64 f) (.bool false) (.slice bo mo dq) (.slice bh mh dh) (.slice bc mc dc))
          replace cell := cell_put8 (k := q) cell (by show bb ≠ q; have : bb < q := hbq; omega) (.string ⟨s.toArray⟩) (.string ⟨p.toArray⟩) (.int .i64 r) (.int .i64 f) (.bool false) (.slice bo mo dq) (.slice bh mh dh) (.slice bc mc dc)
          replace BW := bel_put8 (B := q) BW (by omega) (.string ⟨s.toArray⟩) (.string ⟨p.toArray⟩) (.int .i64 r) (.int .i64 f) (.bool false) (.slice bo mo dq) (.slice bh mh dh) (.slice bc mc dc)
          replace X := SBox.other8 (k := q) X nq (.string ⟨s.toArray⟩) (.string ⟨p.toArray⟩) (.int .i64 r) (.int .i64 f) (.bool false) (.slice bo mo dq) (.slice bh mh dh) (.slice bc mc dc)
          replace R := SBox.other8 (k := q) R (by omega) (.string ⟨s.toArray⟩) (.string ⟨p.toArray⟩) (.int .i64 r) (.int .i64 f) (.bool false) (.slice bo mo dq) (.slice bh mh dh) (.slice bc mc dc)
          replace Q := Q.put8 (.string ⟨s.toArray⟩) (.string ⟨p.toArray⟩) (.int .i64 r) (.int .i64 f) (.bool false) (.slice bo mo dq) (.slice bh mh dh) (.slice bc mc dc)
          refine lastC (by kernel_rfl) (by kernel_rfl) ⟨X, cell⟩ (of_decide_eq_true (by kernel_rfl)) ?_
          refine any_seqI [11] [_] _ _ _ rfl (by kernel_rfl) ?_
          cases hd : doesS y rec with
          | none =>
            rw [doesR_no hd] at hb0
            obtain rfl := hb0.out
            have HY : Hid (openS (s, p, r, f, false) = (zeroS, 3)) := open_odd _ rfl (by rw [hR.out]; exact fold_odd hk1 OK.out.fo (by rw [HRC.out]; exact hd))
            clear hd hb0
            have kx0 := X.cell 0 _ rfl
            have kx1 := X.cell 1 _ rfl
            have kx2 := X.cell 2 _ rfl
            have kx3 := X.cell 3 _ rfl
            have kx4 := X.cell 4 _ rfl
            have kx5 := X.cell 5 _ rfl
            have kx6 := X.cell 6 _ rfl
            have kx7 := X.cell 7 _ rfl
            have fkx0 := X.frozen 0
            have fkx1 := X.frozen 1
            have fkx2 := X.frozen 2
            have fkx3 := X.frozen 3
            have fkx4 := X.frozen 4
            have fkx5 := X.frozen 5
            have fkx6 := X.frozen 6
            have fkx7 := X.frozen 7
            have kz0 := R.cell 0 _ rfl
            have kz1 := R.cell 1 _ rfl
            have kz2 := R.cell 2 _ rfl
            have kz3 := R.cell 3 _ rfl
            have kz4 := R.cell 4 _ rfl
            have kz5 := R.cell 5 _ rfl
            have kz6 := R.cell 6 _ rfl
            have kz7 := R.cell 7 _ rfl
            have fkz0 := R.frozen 0
            have fkz1 := R.frozen 1
            have fkz2 := R.frozen 2
            have fkz3 := R.frozen 3
            have fkz4 := R.frozen 4
            have fkz5 := R.frozen 5
            have fkz6 := R.frozen 6
            have fkz7 := R.frozen 7
            have kq0 := Q.cell 0 _ rfl
            have kq1 := Q.cell 1 _ rfl
            have kq2 := Q.cell 2 _ rfl
            have kq3 := Q.cell 3 _ rfl
            have kq4 := Q.cell 4 _ rfl
            have kq5 := Q.cell 5 _ rfl
            have kq6 := Q.cell 6 _ rfl
            have kq7 := Q.cell 7 _ rfl
            have fkq0 := Q.frozen 0
            have fkq1 := Q.frozen 1
            have fkq2 := Q.frozen 2
            have fkq3 := Q.frozen 3
            have fkq4 := Q.frozen 4
            have fkq5 := Q.frozen 5
            have fkq6 := Q.frozen 6
            have fkq7 := Q.frozen 7
            go_wp2_with fail
            rw [HY.out]
            unfold stC
            simp only
            have BZ := bel_put8 (B := w.heap.size + 1) BW (by omega)
            exact bodyPost_ret (results_st2 Try.results26 _ _ (w.heap.size + 1) _ rfl rfl (R.put8 _ _ _ _ _ _ _ _)) rfl ⟨_, _, _, rfl, BZ _ _ _ _ _ _ _ _, _, fun V _ h => h⟩
          | some z =>
            rw [doesR_yes hd] at hb0 hT
            obtain rfl := hb0.out
            have ON := Lib.hid (OK.out.nextG (by omega) lm.out hk1 (by rw [HRC.out]; exact hd) BW R X (by rw [HN.out]; exact O) A1 A2 hT.out (.string ⟨s.toArray⟩) (.string ⟨p.toArray⟩) (.int .i64 r) (.int .i64 f) (.bool false) (.slice bo mo dq) (.slice bh mh dh) (.slice bc mc dc) rfl)
            clear hd hb0 R O
            have kx0 := X.cell 0 _ rfl
            have kx1 := X.cell 1 _ rfl
            have kx2 := X.cell 2 _ rfl
            have kx3 := X.cell 3 _ rfl
            have kx4 := X.cell 4 _ rfl
            have kx5 := X.cell 5 _ rfl
            have kx6 := X.cell 6 _ rfl
            have kx7 := X.cell 7 _ rfl
            have fkx0 := X.frozen 0
            have fkx1 := X.frozen 1
            have fkx2 := X.frozen 2
            have fkx3 := X.frozen 3
            have fkx4 := X.frozen 4
            have fkx5 := X.frozen 5
            have fkx6 := X.frozen 6
            have fkx7 := X.frozen 7
            have kq0 := Q.cell 0 _ rfl
            have kq1 := Q.cell 1 _ rfl
            have kq2 := Q.cell 2 _ rfl
            have kq3 := Q.cell 3 _ rfl
            have kq4 := Q.cell 4 _ rfl
            have kq5 := Q.cell 5 _ rfl
            have kq6 := Q.cell 6 _ rfl
            have kq7 := Q.cell 7 _ rfl
            have fkq0 := Q.frozen 0
            have fkq1 := Q.frozen 1
            have fkq2 := Q.frozen 2
            have fkq3 := Q.frozen 3
            have fkq4 := Q.frozen 4
            have fkq5 := Q.frozen 5
            have fkq6 := Q.frozen 6
            have fkq7 := Q.frozen 7
            go_wp2_with fail
            go_roundw
            case rel => exact ⟨k + 1, _, _, _, _, _, by omega, by first | go_num | simp, ON⟩
            case measure => simp [intOf]; omega
      · obtain rfl : k = n := by omega
        have hy : openS (s, p, r, f, false) = (((s, p, r, f, false), y), 0) := open_ok _ rfl (by rw [hR.out]; have := OK.out.fo; rwa [List.take_of_length_le (by rw [HN.out]; exact Nat.le_refl _)] at this)
        have HY := Lib.hid hy
        clear hy
        have R := OK.out.br
        have X := OK.out.bs
        have hb0 := OK.out.bel.size
        unfold stC at X
        have kx0 := X.cell 0 _ rfl
        have kx1 := X.cell 1 _ rfl
        have kx2 := X.cell 2 _ rfl
        have kx3 := X.cell 3 _ rfl
        have kx4 := X.cell 4 _ rfl
        have kx5 := X.cell 5 _ rfl
        have kx6 := X.cell 6 _ rfl
        have kx7 := X.cell 7 _ rfl
        have fkx0 := X.frozen 0
        have fkx1 := X.frozen 1
        have fkx2 := X.frozen 2
        have fkx3 := X.frozen 3
        have fkx4 := X.frozen 4
        have fkx5 := X.frozen 5
        have fkx6 := X.frozen 6
        have fkx7 := X.frozen 7
        have kz0 := R.cell 0 _ rfl
        have kz1 := R.cell 1 _ rfl
        have kz2 := R.cell 2 _ rfl
        have kz3 := R.cell 3 _ rfl
        have kz4 := R.cell 4 _ rfl
        have kz5 := R.cell 5 _ rfl
        have kz6 := R.cell 6 _ rfl
        have kz7 := R.cell 7 _ rfl
        have fkz0 := R.frozen 0
        have fkz1 := R.frozen 1
        have fkz2 := R.frozen 2
        have fkz3 := R.frozen 3
        have fkz4 := R.frozen 4
        have fkz5 := R.frozen 5
        have fkz6 := R.frozen 6
        have fkz7 := R.frozen 7
        go_wp2_with fail
        rw [HY.out]
        unfold stC
        simp only
        have BZ := bel_put8 (B := w.heap.size + 1) OK.out.bel (by omega)
        refine bodyPost_ret (results_st2 Try.results26 _ _ (w.heap.size + 1) _ rfl rfl (R.put8 _ _ _ _ _ _ _ _)) rfl ⟨_, _, _, rfl, BZ _ _ _ _ _ _ _ _, _, fun V hV _ => OK.out.st V ?_⟩
        exact ((Agr.refl _ _).set8 (by omega) _ _ _ _ _ _ _ _).trans (hV.mono (by omega))
end Go.Proofs.Ytngllioidfffdaa
