/-
  What store.Open and store.Crash answer.
-/
import Derived.Test.YtngllioidfffdaaZP17Done
import Derived.Test.YtngllioidfffdaaGX
import Derived.Test.YtngllioidfffdaaZP16Crash
namespace Go.Proofs.Ytngllioidfffdaa
set_option maxRecDepth 100000
open Go.RowKit
set_option linter.unusedVariables false
attribute [local go_sem] ba_size
def OpenRes (w : World) (y : Sto × Int) (e : Ending) (w' : World) : Prop := StoRes w (.slice none 0 0) (.slice none 0 0) (.slice none 0 0) [] ([], [], []) y e w'
theorem open_off (t : Tp) (h : t.2.2.2.2 = true) : openS t = (zeroS, 6) := by unfold openS; rw [if_pos h]
theorem open_odd (t : Tp) (h : t.2.2.2.2 = false) (hf : foldS ([], [], []) (readT t) = none) : openS t = (zeroS, 3) := by unfold openS; rw [if_neg (by rw [h]; simp), hf]
theorem open_ok (t : Tp) (h : t.2.2.2.2 = false) {x : Sd} (hf : foldS ([], [], []) (readT t) = some x) : openS t = ((t, x), 0) := by unfold openS; rw [if_neg (by rw [h]; simp), hf]
set_option maxHeartbeats 8000000 in
theorem popen17_any (s p : List UInt8) (r f : Int) (o : Bool) (hs : s.length + p.length ≤ 8796093021952) (w : World) :
    Calls Try.prog 25 #[tpV (s, p, r, f, o)] w fun e w' => OpenRes w (openS (s, p, r, f, o)) e w' := by
  unfold OpenRes StoRes tpV tpC
  cases o with
  | true =>
    rw [open_off _ rfl]
    unfold stC
    simp only
    go_enter Try.func25, Try.ntmps25
    go_wp2_with fail
    exact bodyPost_ret (results_st2 Try.results25 _ _ (w.heap.size + 1) _ rfl rfl (sbox2 _ _ _ _)) rfl ⟨_, _, _, rfl, bel2 w _ _, _, fun V _ h => h⟩
  | false =>
    obtain ⟨L, hL⟩ : ∃ L, Lm.recsL (s ++ p) = L := ⟨_, rfl⟩
    have HL : Hid (Lm.recsL (s ++ p) = L) := hL
    have hR : Hid (readT (s, p, r, f, false) = L) := hL
    obtain ⟨n, hn⟩ : ∃ n, L.length = n := ⟨_, rfl⟩
    have HN : Hid (L.length = n) := hn
    have hnb : n ≤ 8796093021952 := by rw [← hn, ← hL]; exact Nat.le_trans (Lm.recs_few _) (by rw [List.length_append]; exact hs)
    have C := fun W => pread16_any s p r f false hs W
    rw [hL] at C
    have B0 := bel3 w (.cells #[.string ⟨s.toArray⟩, .string ⟨p.toArray⟩, .int .i64 r, .int .i64 f, .bool false] 23) (.cells zS17 28) (.cells #[.string ⟨s.toArray⟩, .string ⟨p.toArray⟩, .int .i64 r, .int .i64 f, .bool false, .slice none 0 0, .slice none 0 0, .slice none 0 0] 28)
    have R := (sbox2 w (.cells #[.string ⟨s.toArray⟩, .string ⟨p.toArray⟩, .int .i64 r, .int .i64 f, .bool false] 23) 28 zS17).alloc (.cells #[.string ⟨s.toArray⟩, .string ⟨p.toArray⟩, .int .i64 r, .int .i64 f, .bool false, .slice none 0 0, .slice none 0 0, .slice none 0 0] 28)
    have S := sbox3 w (.cells #[.string ⟨s.toArray⟩, .string ⟨p.toArray⟩, .int .i64 r, .int .i64 f, .bool false] 23) (.cells zS17 28) 28 #[.string ⟨s.toArray⟩, .string ⟨p.toArray⟩, .int .i64 r, .int .i64 f, .bool false, .slice none 0 0, .slice none 0 0, .slice none 0 0]
    have hsp := Lib.hid hs
    clear hL hn hs
    go_enter Try.func25, Try.ntmps25
    go_wp2_with fail
    refine (C _).mono ?_
    rintro e1 w1 ⟨v, rfl, bb, ow⟩
    replace R := R.below bb
    replace S := S.below bb
    replace B0 := B0.trans (bb.mono B0.size)
    replace ow := owns_low ow (B' := w.heap.size + 2 + 1) (by simp only [World.size_alloc]; omega)
    obtain ⟨ga, gc, rfl, hgc⟩ := own_slice9 ow
    rw [HN.out] at hgc
    have O0 : Hid (OpS w w1 (w.heap.size + 2) (s, p, r, f, false) (.slice ga L.length gc) L 0 (.slice none 0 0) (.slice none 0 0) (.slice none 0 0) [] ([], [], [])) := ⟨B0, R, S, ow, rfl, fun V _ => StIn.zero V⟩
    rw [HN.out] at O0
    clear C R S B0 bb
    simp only [HN.out]
    go_wp2_with fail
    go_loopw [17] (fun i wr => ∃ (k : Nat) (uo uh uc : Value) (G : List Value) (y : Sd), k ≤ n ∧ i = .int .i64 k ∧ Hid (OpS w wr (w.heap.size + 2) (s, p, r, f, false) (.slice ga n gc) L k uo uh uc G y)) (fun i _ => n - (intOf i).toNat)
    case atStart => exact ⟨0, _, _, _, _, _, Nat.zero_le _, rfl, O0⟩
    case round =>
      obtain ⟨k, uo, uh, uc, G, y, hk, rfl, OK⟩ := hrel
      obtain ⟨ao, no, co, ah, nh, ch, ac, nc, cc, rfl, rfl, rfl⟩ := (OK.out.st _ (Agr.refl _ _)).slices
      by_cases hlt : k < n
      · have hk1 : k < L.length := by rw [HN.out]; exact hlt
        have HT : IsTxt wr (.slice ga n gc) L := by rw [← HL.out]; exact OpS.txt (by rw [HL.out]; exact OK.out) (by rw [List.length_append]; have := hsp.out; omega)
        obtain ⟨a', cap', e0, _, _, _, HC⟩ := HT.some_at
        simp only [Value.slice.injEq] at e0
        obtain ⟨rfl, e9, rfl⟩ := e0
        clear e9
        obtain ⟨bb, off, rfl, hblt, cell⟩ := HC.out k hk1
        obtain ⟨rec, hrec⟩ : ∃ rec, L[k] = rec := ⟨_, rfl⟩
        have HRC : Hid (L[k] = rec) := hrec
        have hrl : rec.length ≤ 1125899906842624 := by rw [← hrec]; exact HT.bound _ (List.getElem_mem hk1)
        rw [hrec] at cell
        clear hrec HC HT
        have R := OK.out.br
        have X := OK.out.bs
        have hb0 := OK.out.bel.size
        have hst := Lib.hid (OK.out.st _ (Agr.refl _ _))
        unfold stC at X
        have kx0 := X.cell 0 _ rfl
        have kx1 := X.cell 1 _ rfl
        have kx2 := X.cell 2 _ rfl
        have kx3 := X.cell 3 _ rfl
        have kx4 := X.cell 4 _ rfl
        have kx5 := X.cell 5 _ rfl
        have kx6 := X.cell 6 _ rfl
        have kx7 := X.cell 7 _ rfl
        have fkx0 := X.frozen 0
        have fkx1 := X.frozen 1
        have fkx2 := X.frozen 2
        have fkx3 := X.frozen 3
        have fkx4 := X.frozen 4
        have fkx5 := X.frozen 5
        have fkx6 := X.frozen 6
        have fkx7 := X.frozen 7
        have kz0 := R.cell 0 _ rfl
        have kz1 := R.cell 1 _ rfl
        have kz2 := R.cell 2 _ rfl
        have kz3 := R.cell 3 _ rfl
        have kz4 := R.cell 4 _ rfl
        have kz5 := R.cell 5 _ rfl
        have kz6 := R.cell 6 _ rfl
        have kz7 := R.cell 7 _ rfl
        have fkz0 := R.frozen 0
        have fkz1 := R.frozen 1
        have fkz2 := R.frozen 2
        have fkz3 := R.frozen 3
        have fkz4 := R.frozen 4
        have fkz5 := R.frozen 5
        have fkz6 := R.frozen 6
        have fkz7 := R.frozen 7
        go_wp2_with fail
        refine (pdone17_any s p r f false _ _ _ G y rec hrl _ hst.out).mono ?_
        rintro e2 w2 ⟨bo0, bh0, bc0, rfl, b2, G2, hT⟩
        clear kx0 fkx0 kx1 fkx1 kx2 fkx2 kx3 fkx3 kx4 fkx4 kx5 fkx5 kx6 fkx6 kx7 fkx7 kz0 fkz0 kz1 fkz1 kz2 fkz2 kz3 fkz3 kz4 fkz4 kz5 fkz5 kz6 fkz6 kz7 fkz7
        cases hd : doesS y rec with
        | none =>
          rw [doesR_no hd] at hT
          rw [doesR_no hd]
          obtain ⟨bo, mo, dq, bh, mh, dh, bc, mc, dc, rfl, rfl, rfl⟩ := (hT _ (Agr.refl _ _) (hst.out.below b2)).slices
          simp only [stC]
          have HY : Hid (openS (s, p, r, f, false) = (zeroS, 3)) := open_odd _ rfl (by rw [hR.out]; exact fold_odd hk1 OK.out.fo (by rw [HRC.out]; exact hd))
          replace X := (X.below b2).alloc (.cells #[.string ⟨s.toArray⟩, .string ⟨p.toArray⟩, .int .i64 r, .int .i64 f, .bool false, .slice bo mo dq, .slice bh mh dh, .slice bc mc dc] 28)
          replace R := (R.below b2).alloc (.cells #[.string ⟨s.toArray⟩, .string ⟨p.toArray⟩, .int .i64 r, .int .i64 f, .bool false, .slice bo mo dq, .slice bh mh dh, .slice bc mc dc] 28)
          have B1 := OK.out.bel.trans (b2.mono OK.out.bel.size)
          replace B1 := B1.alloc B1.size (.cells #[.string ⟨s.toArray⟩, .string ⟨p.toArray⟩, .int .i64 r, .int .i64 f, .bool false, .slice bo mo dq, .slice bh mh dh, .slice bc mc dc] 28)
          clear hd b2 hT
          have kx0 := X.cell 0 _ rfl
          have kx1 := X.cell 1 _ rfl
          have kx2 := X.cell 2 _ rfl
          have kx3 := X.cell 3 _ rfl
          have kx4 := X.cell 4 _ rfl
          have kx5 := X.cell 5 _ rfl
          have kx6 := X.cell 6 _ rfl
          have kx7 := X.cell 7 _ rfl
          have fkx0 := X.frozen 0
          have fkx1 := X.frozen 1
          have fkx2 := X.frozen 2
          have fkx3 := X.frozen 3
          have fkx4 := X.frozen 4
          have fkx5 := X.frozen 5
          have fkx6 := X.frozen 6
          have fkx7 := X.frozen 7
          have kz0 := R.cell 0 _ rfl
          have kz1 := R.cell 1 _ rfl
          have kz2 := R.cell 2 _ rfl
          have kz3 := R.cell 3 _ rfl
          have kz4 := R.cell 4 _ rfl
          have kz5 := R.cell 5 _ rfl
          have kz6 := R.cell 6 _ rfl
          have kz7 := R.cell 7 _ rfl
          have fkz0 := R.frozen 0
          have fkz1 := R.frozen 1
          have fkz2 := R.frozen 2
          have fkz3 := R.frozen 3
          have fkz4 := R.frozen 4
          have fkz5 := R.frozen 5
          have fkz6 := R.frozen 6
          have fkz7 := R.frozen 7
          go_wp2_with fail
          rw [HY.out]
          unfold stC
          simp only
          have BZ := bel_put8 (B := w.heap.size + 1) B1 (by omega)
          exact bodyPost_ret (results_st2 Try.results25 _ _ (w.heap.size + 1) _ rfl rfl (R.put8 _ _ _ _ _ _ _ _)) rfl ⟨_, _, _, rfl, BZ _ _ _ _ _ _ _ _, _, fun V _ h => h⟩
        | some z =>
          rw [doesR_yes hd] at hT
          rw [doesR_yes hd]
          obtain ⟨bo, mo, dq, bh, mh, dh, bc, mc, dc, rfl, rfl, rfl⟩ := (hT _ (Agr.refl _ _) (hst.out.below b2)).slices
          simp only [stC]
          have ON := Lib.hid (OK.out.next (by omega) hk1 (by rw [HRC.out]; exact hd) b2 hT (.cells #[.string ⟨s.toArray⟩, .string ⟨p.toArray⟩, .int .i64 r, .int .i64 f, .bool false, .slice bo mo dq, .slice bh mh dh, .slice bc mc dc] 28) rfl (.string ⟨s.toArray⟩) (.string ⟨p.toArray⟩) (.int .i64 r) (.int .i64 f) (.bool false) (.slice bo mo dq) (.slice bh mh dh) (.slice bc mc dc) rfl)
          replace X := (X.below b2).alloc (.cells #[.string ⟨s.toArray⟩, .string ⟨p.toArray⟩, .int .i64 r, .int .i64 f, .bool false, .slice bo mo dq, .slice bh mh dh, .slice bc mc dc] 28)
          have Y := SBox.new w2 28 #[.string ⟨s.toArray⟩, .string ⟨p.toArray⟩, .int .i64 r, .int .i64 f, .bool false, .slice bo mo dq, .slice bh mh dh, .slice bc mc dc]
          clear hd b2 hT R
          have kx0 := X.cell 0 _ rfl
          have kx1 := X.cell 1 _ rfl
          have kx2 := X.cell 2 _ rfl
          have kx3 := X.cell 3 _ rfl
          have kx4 := X.cell 4 _ rfl
          have kx5 := X.cell 5 _ rfl
          have kx6 := X.cell 6 _ rfl
          have kx7 := X.cell 7 _ rfl
          have fkx0 := X.frozen 0
          have fkx1 := X.frozen 1
          have fkx2 := X.frozen 2
          have fkx3 := X.frozen 3
          have fkx4 := X.frozen 4
          have fkx5 := X.frozen 5
          have fkx6 := X.frozen 6
          have fkx7 := X.frozen 7
          have ky0 := Y.cell 0 _ rfl
          have ky1 := Y.cell 1 _ rfl
          have ky2 := Y.cell 2 _ rfl
          have ky3 := Y.cell 3 _ rfl
          have ky4 := Y.cell 4 _ rfl
          have ky5 := Y.cell 5 _ rfl
          have ky6 := Y.cell 6 _ rfl
          have ky7 := Y.cell 7 _ rfl
          have fky0 := Y.frozen 0
          have fky1 := Y.frozen 1
          have fky2 := Y.frozen 2
          have fky3 := Y.frozen 3
          have fky4 := Y.frozen 4
          have fky5 := Y.frozen 5
          have fky6 := Y.frozen 6
          have fky7 := Y.frozen 7
          go_wp2_with fail
          go_roundw
          case rel => exact ⟨k + 1, _, _, _, _, _, by omega, by first | go_num | simp, ON⟩
          case measure => simp [intOf]; omega
      · obtain rfl : k = n := by omega
        have hy : openS (s, p, r, f, false) = (((s, p, r, f, false), y), 0) := open_ok _ rfl (by rw [hR.out]; have := OK.out.fo; rwa [List.take_of_length_le (by rw [HN.out]; exact Nat.le_refl _)] at this)
        have HY := Lib.hid hy
        clear hy
        have R := OK.out.br
        have X := OK.out.bs
        have hb0 := OK.out.bel.size
        unfold stC at X
        have kx0 := X.cell 0 _ rfl
        have kx1 := X.cell 1 _ rfl
        have kx2 := X.cell 2 _ rfl
        have kx3 := X.cell 3 _ rfl
        have kx4 := X.cell 4 _ rfl
        have kx5 := X.cell 5 _ rfl
        have kx6 := X.cell 6 _ rfl
        have kx7 := X.cell 7 _ rfl
        have fkx0 := X.frozen 0
        have fkx1 := X.frozen 1
        have fkx2 := X.frozen 2
        have fkx3 := X.frozen 3
        have fkx4 := X.frozen 4
        have fkx5 := X.frozen 5
        have fkx6 := X.frozen 6
        have fkx7 := X.frozen 7
        have kz0 := R.cell 0 _ rfl
        have kz1 := R.cell 1 _ rfl
        have kz2 := R.cell 2 _ rfl
        have kz3 := R.cell 3 _ rfl
        have kz4 := R.cell 4 _ rfl
        have kz5 := R.cell 5 _ rfl
        have kz6 := R.cell 6 _ rfl
        have kz7 := R.cell 7 _ rfl
        have fkz0 := R.frozen 0
        have fkz1 := R.frozen 1
        have fkz2 := R.frozen 2
        have fkz3 := R.frozen 3
        have fkz4 := R.frozen 4
        have fkz5 := R.frozen 5
        have fkz6 := R.frozen 6
        have fkz7 := R.frozen 7
        go_wp2_with fail
        rw [HY.out]
        unfold stC
        simp only
        have BZ := bel_put8 (B := w.heap.size + 1) OK.out.bel (by omega)
        refine bodyPost_ret (results_st2 Try.results25 _ _ (w.heap.size + 1) _ rfl rfl (R.put8 _ _ _ _ _ _ _ _)) rfl ⟨_, _, _, rfl, BZ _ _ _ _ _ _ _ _, _, fun V hV _ => OK.out.st V ?_⟩
        exact ((Agr.refl _ _).set8 (by omega) _ _ _ _ _ _ _ _).trans (hV.mono (by omega))
end Go.Proofs.Ytngllioidfffdaa
