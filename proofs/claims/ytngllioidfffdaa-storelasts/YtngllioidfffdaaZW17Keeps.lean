/-
  StoreKeeps: its walk.
-/
import Derived.Test.YtngllioidfffdaaZW17Does
import Derived.Test.YtngllioidfffdaaZShown17
import Derived.Test.YtngllioidfffdaaGD
import Derived.Lib.Hide
namespace Go.Proofs.Ytngllioidfffdaa
set_option maxRecDepth 100000
open Go.RowKit
set_option linter.unusedVariables false
set_option linter.unusedSimpArgs false
attribute [local go_sem] ba_size
abbrev IsAc7 (w : World) (v : Value) (L : List Ac7) : Prop := IsRec 7 ac7V w v L
/-- A store in a block of stores, and what was done to it. -/
structure KpS (w wr : World) (b : Nat) (T : Tp) (vo vh vc : Value) (G : List Value) (x : Sd) : Prop where
  bel : Below w.heap.size w wr
  bx : SBox wr b 28 (stC T vo vh vc)
  st : ∀ V, Agr w.heap.size wr V → StIn V vo vh vc G x
def KRel (w : World) (b6 : Nat) (room : Int) (k : Nat) (wr : World) : Prop := ∃ (s p : List UInt8) (r f : Int) (o : Bool) (vo vh vc : Value) (G : List Value) (x : Sd), Hid (KpS w wr b6 (s, p, r, f, o) vo vh vc G x) ∧ Hid (StKeep (2 * k) room ((s, p, r, f, o), x))
theorem KpS.step {w wr wd w2 : World} {b : Nat} {T T' : Tp} {vo vh vc uo uh uc : Value} {G G' : List Value} {x y : Sd} (h : KpS w wr b T vo vh vc G x) (hb : w.heap.size ≤ b) (hd : Below wr.heap.size wr wd) (bb : Below wd.heap.size wd w2) (hT : ∀ V, Agr wd.heap.size w2 V → StIn V vo vh vc G x → StIn V uo uh uc G' y)
    {c0 c1 c2 c3 c4 c5 c6 c7 : Value} (hc : #[c0, c1, c2, c3, c4, c5, c6, c7] = stC T vo vh vc) (v0 v1 v2 v3 v4 v5 v6 v7 : Value) (hv : #[v0, v1, v2, v3, v4, v5, v6, v7] = stC T' uo uh uc) :
    KpS w ((((((((w2.setCell ⟨b, 0, none⟩ v0).setCell ⟨b, 1, none⟩ v1).setCell ⟨b, 2, none⟩ v2).setCell ⟨b, 3, none⟩ v3).setCell ⟨b, 4, none⟩ v4).setCell ⟨b, 5, none⟩ v5).setCell ⟨b, 6, none⟩ v6).setCell ⟨b, 7, none⟩ v7) b T' uo uh uc G' y := by
  have bd : Below wr.heap.size wr w2 := hd.trans (bb.mono hd.size)
  have B := h.bel.trans (bd.mono h.bel.size)
  have X := h.bx.below bd
  rw [← hc] at X
  have hs := h.bx.lt
  refine ⟨bel_put8 B hb _ _ _ _ _ _ _ _, by rw [← hv]; exact X.put8 _ _ _ _ _ _ _ _, fun V hV => ?_⟩
  have a1 : Agr w.heap.size w2 V := ((Agr.refl _ w2).setS8 X _ _ _ _ _ _ _ _).trans hV
  exact hT V (a1.mono (Nat.le_trans h.bel.size hd.size)) (h.st V ((Agr.below bd).trans a1))
set_option maxHeartbeats 16000000 in
theorem keeps17_walk (l : List Ac7) (v : Value) (room : Int) (w : World) (hT : IsAc7 w v l) (hG : ∀ x ∈ l, goodAc x) (hr1 : -9223372036854775808 ≤ room) (hr2 : room ≤ 9223372036854775807) : Calls Try.prog 6 #[.int .i64 room, v] w fun e w' => e = .returned (.bool true) ∧ Below w.heap.size w w' := by
  obtain ⟨a, cap, rfl, k1, k2, k3, HC⟩ := hT.some_at
  obtain ⟨n, hn⟩ : ∃ n, l.length = n := ⟨_, rfl⟩
  have HN := Lib.hid hn
  rw [hn] at k1 k3 ⊢
  have HG := Lib.hid hG
  clear hT hn hG
  have C1 := fun W => pnew17_any room W
  unfold StoRes at C1
  by_cases hneg : room < 0
  · have hnew : newS room = ((([], [], 0, 0, false), ([], [], [])), 1) := by unfold newS newT; rw [if_pos hneg]
    rw [hnew] at C1
    simp only [stC] at C1
    clear hnew
    go_enter Try.func6, Try.ntmps6
    go_wp2_with fail
    refine (shown17_any _).mono ?_
    rintro e_ w_1 ⟨rfl, b_1⟩
    have B1 := (Below.refl w.heap.size w).trans (b_1.mono (Below.refl w.heap.size w).size)
    clear b_1
    go_wp2_with fail
    refine (C1 _).mono ?_
    rintro e_ w_2 ⟨uo_s, uh_s, uc_s, rfl, b_2, G_s, hT⟩
    have B2 := B1.trans (b_2.mono B1.size)
    clear B1
    clear b_2
    have A_s := agrOf hT
    have HT_s := Lib.hid hT
    clear hT
    have I_s := HT_s.out _ A_s (StIn.zero _)
    obtain ⟨ao_s, no_s, co_s, ah_s, nh_s, ch_s, ac_s, nc_s, cc_s, rfl, rfl, rfl⟩ := I_s.slices
    replace I_s := I_s.below ((Below.refl _ _).alloc (Nat.le_refl _) (.cells #[.string ⟨#[]⟩, .string ⟨#[]⟩, .int .i64 0, .int .i64 0, .bool false, .slice ao_s no_s co_s, .slice ah_s nh_s ch_s, .slice ac_s nc_s cc_s] 28))
    replace A_s := A_s.trans (Agr.below ((Below.refl _ _).alloc (Nat.le_refl _) (.cells #[.string ⟨#[]⟩, .string ⟨#[]⟩, .int .i64 0, .int .i64 0, .bool false, .slice ao_s no_s co_s, .slice ah_s nh_s ch_s, .slice ac_s nc_s cc_s] 28)))
    have X_s := SBox.new w_2 28 #[.string ⟨#[]⟩, .string ⟨#[]⟩, .int .i64 0, .int .i64 0, .bool false, .slice ao_s no_s co_s, .slice ah_s nh_s ch_s, .slice ac_s nc_s cc_s]
    have l_s := Lib.hid B2.size
    have B3 := B2.alloc B2.size (.cells #[.string ⟨#[]⟩, .string ⟨#[]⟩, .int .i64 0, .int .i64 0, .bool false, .slice ao_s no_s co_s, .slice ah_s nh_s ch_s, .slice ac_s nc_s cc_s] 28)
    clear B2
    go_wp2_with fail
    go_ret
    exact ⟨rfl, B3⟩
  · obtain ⟨hnew, hk0⟩ := keep_new room hneg
    have HK0 := Lib.hid hk0
    rw [hnew] at C1
    simp only [stC] at C1
    clear hnew hk0
    go_enter Try.func6, Try.ntmps6
    go_wp2_with fail
    refine (shown17_any _).mono ?_
    rintro e_ w_1 ⟨rfl, b_1⟩
    have B1 := (Below.refl w.heap.size w).trans (b_1.mono (Below.refl w.heap.size w).size)
    clear b_1
    have z1 := Lib.hid B1.size
    go_wp2_with fail
    refine (C1 _).mono ?_
    rintro e_ w_2 ⟨uo_s, uh_s, uc_s, rfl, b_2, G_s, hT⟩
    have B2 := B1.trans (b_2.mono B1.size)
    clear B1
    clear b_2
    have A_s := agrOf hT
    have HT_s := Lib.hid hT
    clear hT
    have I_s := HT_s.out _ A_s (StIn.zero _)
    obtain ⟨ao_s, no_s, co_s, ah_s, nh_s, ch_s, ac_s, nc_s, cc_s, rfl, rfl, rfl⟩ := I_s.slices
    replace I_s := I_s.below ((Below.refl _ _).alloc (Nat.le_refl _) (.cells #[.string ⟨#[]⟩, .string ⟨#[]⟩, .int .i64 room, .int .i64 (-1), .bool false, .slice ao_s no_s co_s, .slice ah_s nh_s ch_s, .slice ac_s nc_s cc_s] 28))
    replace A_s := A_s.trans (Agr.below ((Below.refl _ _).alloc (Nat.le_refl _) (.cells #[.string ⟨#[]⟩, .string ⟨#[]⟩, .int .i64 room, .int .i64 (-1), .bool false, .slice ao_s no_s co_s, .slice ah_s nh_s ch_s, .slice ac_s nc_s cc_s] 28)))
    have X_s := SBox.new w_2 28 #[.string ⟨#[]⟩, .string ⟨#[]⟩, .int .i64 room, .int .i64 (-1), .bool false, .slice ao_s no_s co_s, .slice ah_s nh_s ch_s, .slice ac_s nc_s cc_s]
    have l_s := Lib.hid B2.size
    have B3 := B2.alloc B2.size (.cells #[.string ⟨#[]⟩, .string ⟨#[]⟩, .int .i64 room, .int .i64 (-1), .bool false, .slice ao_s no_s co_s, .slice ah_s nh_s ch_s, .slice ac_s nc_s cc_s] 28)
    clear B2
    obtain ⟨b6, hb6⟩ : ∃ b6, w_2.heap.size = b6 := ⟨_, rfl⟩
    have HL6 : w.heap.size ≤ b6 := by rw [← hb6]; exact l_s.out
    have K0 : Hid (KpS w (w_2.alloc (.cells #[.string ⟨#[]⟩, .string ⟨#[]⟩, .int .i64 room, .int .i64 (-1), .bool false, .slice ao_s no_s co_s, .slice ah_s nh_s ch_s, .slice ac_s nc_s cc_s] 28)) b6 ([], [], room, -1, false) (.slice ao_s no_s co_s) (.slice ah_s nh_s ch_s) (.slice ac_s nc_s cc_s) G_s ([], [], [])) := ⟨B3, by rw [← hb6]; exact X_s, fun V hV => HT_s.out V (A_s.trans (hV.mono z1.out)) (StIn.zero V)⟩
    go_wp2_with fail
    clear C1 hb6
    go_loopw [8] (fun i wr => ∃ k : Nat, k ≤ n ∧ k ≤ 150 ∧ i = .int .i64 k ∧ KRel w b6 room k wr) (fun i _ => n - (intOf i).toNat)
    case atStart => exact ⟨0, Nat.zero_le _, by omega, rfl, _, _, _, _, _, _, _, _, _, _, K0, HK0⟩
    case round =>
      obtain ⟨k, hk, hk2, rfl, s, p, r, f, o, vo, vh, vc, G, x, HK, HP⟩ := hrel
      obtain ⟨ao, no, co, ah, nh, ch, ac, nc, cc, rfl, rfl, rfl⟩ := (HK.out.st _ (Agr.refl _ _)).slices
      have hB := HK.out.bel
      have X := HK.out.bx
      unfold stC at X
      simp only at X
      by_cases hlt : k < n
      · have i0 : (k : Int) < (n : Int) := by omega
        by_cases hlt2 : k < 150
        · have i2 : (k : Int) < (150 : Int) := by omega
          have hk1 : k < l.length := by rw [HN.out]; exact hlt
          obtain ⟨bb, off, rfl, hblt, hcell⟩ := HC.out k hk1
          have hga := HG.out l[k] (List.getElem_mem hk1)
          obtain ⟨⟨x0, x1, ⟨e0, e1, e2, e3⟩, x3⟩, hx⟩ : ∃ x, l[k] = x := ⟨_, rfl⟩
          rw [hx] at hcell hga
          obtain ⟨⟨ga1, ga2⟩, ga3⟩ := hga
          simp only at ga1 ga2 ga3
          have c0 := (hB.cell (p := ⟨bb, off + k * 7, none⟩) hblt).trans (hcell 0 _ rfl)
          have c1 := (hB.cell (p := ⟨bb, off + k * 7 + 1, none⟩) hblt).trans (hcell 1 _ rfl)
          have c2 := (hB.cell (p := ⟨bb, off + k * 7 + 2, none⟩) hblt).trans (hcell 2 _ rfl)
          have c3 := (hB.cell (p := ⟨bb, off + k * 7 + 3, none⟩) hblt).trans (hcell 3 _ rfl)
          have c4 := (hB.cell (p := ⟨bb, off + k * 7 + 4, none⟩) hblt).trans (hcell 4 _ rfl)
          have c5 := (hB.cell (p := ⟨bb, off + k * 7 + 5, none⟩) hblt).trans (hcell 5 _ rfl)
          have c6 := (hB.cell (p := ⟨bb, off + k * 7 + 6, none⟩) hblt).trans (hcell 6 _ rfl)
          clear hcell hx
          obtain ⟨hgw, hgs, hgp⟩ := keep_good HP.out (by omega) hr2
          simp only at hgs hgp
          by_cases e4 : x0 = 4
          · subst e4
            go_wp2_with fail
            exact ⟨⟨k + 1, by omega, by omega, by first | go_num | simp, _, _, _, _, _, _, _, _, _, _, HK, (HP.out.same.same : StKeep (2 * (k + 1)) room _)⟩, by simp [intOf]; omega⟩
          · have n4 : (x0 == 4) = false := beq_eq_false_iff_ne.2 e4
            by_cases e5 : x0 = 5
            · subst e5
              go_wp2_with fail
              exact ⟨⟨k + 1, by omega, by omega, by first | go_num | simp, _, _, _, _, _, _, _, _, _, _, HK, (HP.out.same.same : StKeep (2 * (k + 1)) room _)⟩, by simp [intOf]; omega⟩
            · have n5 : (x0 == 5) = false := beq_eq_false_iff_ne.2 e5
              have m4 : (x0 != 4) = true := by simp [e4]
              have m5 : (x0 != 5) = true := by simp [e5]
              have kx0 := X.cell 0 _ rfl
              have kx1 := X.cell 1 _ rfl
              have kx2 := X.cell 2 _ rfl
              have kx3 := X.cell 3 _ rfl
              have kx4 := X.cell 4 _ rfl
              have kx5 := X.cell 5 _ rfl
              have kx6 := X.cell 6 _ rfl
              have kx7 := X.cell 7 _ rfl
              have fkx0 := X.frozen 0
              have fkx1 := X.frozen 1
              have fkx2 := X.frozen 2
              have fkx3 := X.frozen 3
              have fkx4 := X.frozen 4
              have fkx5 := X.frozen 5
              have fkx6 := X.frozen 6
              have fkx7 := X.frozen 7
              go_upto_region 9 with fail
              clear kx0 fkx0 kx1 fkx1 kx2 fkx2 kx3 fkx3 kx4 fkx4 kx5 fkx5 kx6 fkx6 kx7 fkx7
              refine wp_region_any (by kernel_rfl) ?_
              change wpAny _ _ _ _ _ _ _ (World.drew _)
              generalize hwd : World.drew _ = wd
              have BD : Below wr.heap.size wr wd := by rw [← hwd]; exact (Below.refl _ _).drew
              clear hwd
              replace c0 := cell_bel BD c0
              replace c1 := cell_bel BD c1
              replace c2 := cell_bel BD c2
              replace c3 := cell_bel BD c3
              replace c4 := cell_bel BD c4
              replace c5 := cell_bel BD c5
              replace c6 := cell_bel BD c6
              have XD := X.below BD
              refine any_of_C (C := (fun V => SBox V b6 28 #[.string ⟨s.toArray⟩, .string ⟨p.toArray⟩, .int .i64 r, .int .i64 f, .bool o, .slice ao no co, .slice ah nh ch, .slice ac nc cc] ∧ V.cell? ⟨bb, off + k * 7, none⟩ = some (.int .i64 x0) ∧ V.cell? ⟨bb, off + k * 7 + 1, none⟩ = some (.int .i64 x1) ∧ V.cell? ⟨bb, off + k * 7 + 2, none⟩ = some (.int .i64 e0) ∧ V.cell? ⟨bb, off + k * 7 + 3, none⟩ = some (.int .i64 e1) ∧ V.cell? ⟨bb, off + k * 7 + 4, none⟩ = some (.string ⟨e2.toArray⟩) ∧ V.cell? ⟨bb, off + k * 7 + 5, none⟩ = some (.string ⟨e3.toArray⟩) ∧ V.cell? ⟨bb, off + k * 7 + 6, none⟩ = some (.string ⟨x3.toArray⟩))) 9 _ _ _ _ ?_
              refine takeD 0 (.agg #[.string ⟨s.toArray⟩, .string ⟨p.toArray⟩, .int .i64 r, .int .i64 f, .bool o, .slice ao no co, .slice ah nh ch, .slice ac nc cc]) rfl (by kernel_rfl) (fun _ _ _ h => h) (fun V hV => by have hV0 := hV.1; have d0 := hV.2.1; have d1 := hV.2.2.1; have d2 := hV.2.2.2.1; have d3 := hV.2.2.2.2.1; have d4 := hV.2.2.2.2.2.1; have d5 := hV.2.2.2.2.2.2.1; have d6 := hV.2.2.2.2.2.2.2; have kx0 := hV0.cell 0 _ rfl; have kx1 := hV0.cell 1 _ rfl; have kx2 := hV0.cell 2 _ rfl; have kx3 := hV0.cell 3 _ rfl; have kx4 := hV0.cell 4 _ rfl; have kx5 := hV0.cell 5 _ rfl; have kx6 := hV0.cell 6 _ rfl; have kx7 := hV0.cell 7 _ rfl; go_simp) ?_
              refine takeD 1 (.slice (some ⟨bb, off, none⟩) n cap) rfl (by kernel_rfl) (fun _ _ _ h => h) (fun V hV => by have hV0 := hV.1; have d0 := hV.2.1; have d1 := hV.2.2.1; have d2 := hV.2.2.2.1; have d3 := hV.2.2.2.2.1; have d4 := hV.2.2.2.2.2.1; have d5 := hV.2.2.2.2.2.2.1; have d6 := hV.2.2.2.2.2.2.2; have kx0 := hV0.cell 0 _ rfl; have kx1 := hV0.cell 1 _ rfl; have kx2 := hV0.cell 2 _ rfl; have kx3 := hV0.cell 3 _ rfl; have kx4 := hV0.cell 4 _ rfl; have kx5 := hV0.cell 5 _ rfl; have kx6 := hV0.cell 6 _ rfl; have kx7 := hV0.cell 7 _ rfl; go_simp) ?_
              refine takeD 2 (.int .i64 (k : Int)) rfl (by kernel_rfl) (fun _ _ _ h => h) (fun V hV => by have hV0 := hV.1; have d0 := hV.2.1; have d1 := hV.2.2.1; have d2 := hV.2.2.2.1; have d3 := hV.2.2.2.2.1; have d4 := hV.2.2.2.2.2.1; have d5 := hV.2.2.2.2.2.2.1; have d6 := hV.2.2.2.2.2.2.2; have kx0 := hV0.cell 0 _ rfl; have kx1 := hV0.cell 1 _ rfl; have kx2 := hV0.cell 2 _ rfl; have kx3 := hV0.cell 3 _ rfl; have kx4 := hV0.cell 4 _ rfl; have kx5 := hV0.cell 5 _ rfl; have kx6 := hV0.cell 6 _ rfl; have kx7 := hV0.cell 7 _ rfl; go_simp) ?_
              refine takeD 3 (.pointer (some ⟨bb, off + k * 7, none⟩)) rfl (by kernel_rfl) (fun _ _ _ h => h) (fun V hV => by have hV0 := hV.1; have d0 := hV.2.1; have d1 := hV.2.2.1; have d2 := hV.2.2.2.1; have d3 := hV.2.2.2.2.1; have d4 := hV.2.2.2.2.2.1; have d5 := hV.2.2.2.2.2.2.1; have d6 := hV.2.2.2.2.2.2.2; have kx0 := hV0.cell 0 _ rfl; have kx1 := hV0.cell 1 _ rfl; have kx2 := hV0.cell 2 _ rfl; have kx3 := hV0.cell 3 _ rfl; have kx4 := hV0.cell 4 _ rfl; have kx5 := hV0.cell 5 _ rfl; have kx6 := hV0.cell 6 _ rfl; have kx7 := hV0.cell 7 _ rfl; go_simp) ?_
              refine takeD 4 (.agg #[.int .i64 x0, .int .i64 x1, .int .i64 e0, .int .i64 e1, .string ⟨e2.toArray⟩, .string ⟨e3.toArray⟩, .string ⟨x3.toArray⟩]) rfl (by kernel_rfl) (fun _ _ _ h => h) (fun V hV => by have hV0 := hV.1; have d0 := hV.2.1; have d1 := hV.2.2.1; have d2 := hV.2.2.2.1; have d3 := hV.2.2.2.2.1; have d4 := hV.2.2.2.2.2.1; have d5 := hV.2.2.2.2.2.2.1; have d6 := hV.2.2.2.2.2.2.2; have kx0 := hV0.cell 0 _ rfl; have kx1 := hV0.cell 1 _ rfl; have kx2 := hV0.cell 2 _ rfl; have kx3 := hV0.cell 3 _ rfl; have kx4 := hV0.cell 4 _ rfl; have kx5 := hV0.cell 5 _ rfl; have kx6 := hV0.cell 6 _ rfl; have kx7 := hV0.cell 7 _ rfl; go_simp) ?_
              refine consC (i := 5) (by kernel_rfl) (by kernel_rfl) ⟨XD, c0, c1, c2, c3, c4, c5, c6⟩ rfl (fun K hK => ?_)
              go_wp2_with fail
              have D := does17_any s p r f o _ _ _ G x x0 x1 e0 e1 e2 e3 x3 (by omega) hgw ⟨by omega, by omega⟩ wd (HK.out.st _ (Agr.below BD))
              have hkp := keep_act HP.out (x0, x1, (e0, e1, e2, e3), x3) e4
              obtain ⟨s', p', r', f', o', y, E, hact⟩ : ∃ a b c d g y E, actS ((s, p, r, f, o), x) (x0, x1, (e0, e1, e2, e3), x3) = (((a, b, c, d, g), y), E) := ⟨_, _, _, _, _, _, _, rfl⟩
              rw [hact] at D hkp
              unfold StoRes at D
              simp only [stC] at D
              simp only at hkp
              have HKP := Lib.hid hkp
              clear hact hkp
              refine D.mono ?_
              rintro e_ w2 ⟨uo, uh, uc, rfl, b2, G2, hT⟩
              clear D
              obtain ⟨bo, mo, dq, bh, mh, dh, bc, mc, dc, rfl, rfl, rfl⟩ := (hT _ (Agr.refl _ _) (HK.out.st _ ((Agr.below BD).trans (Agr.below b2)))).slices
              have HKN := Lib.hid (HK.out.step (T' := (s', p', r', f', o')) HL6 BD b2 hT rfl (.string ⟨s'.toArray⟩) (.string ⟨p'.toArray⟩) (.int .i64 r') (.int .i64 f') (.bool o') (.slice bo mo dq) (.slice bh mh dh) (.slice bc mc dc) rfl)
              replace XD := XD.below b2
              replace c0 := cell_bel b2 c0
              replace c1 := cell_bel b2 c1
              replace c2 := cell_bel b2 c2
              replace c3 := cell_bel b2 c3
              replace c4 := cell_bel b2 c4
              replace c5 := cell_bel b2 c5
              replace c6 := cell_bel b2 c6
              clear hT b2 BD
              go_wp2_with fail
              refine takeD 6 (.tuple #[.agg #[.string ⟨s'.toArray⟩, .string ⟨p'.toArray⟩, .int .i64 r', .int .i64 f', .bool o', .slice bo mo dq, .slice bh mh dh, .slice bc mc dc], .int .i64 E]) rfl (by kernel_rfl) (fun _ _ _ h => h) (fun V hV => by go_simp) ?_
              refine takeD 7 (.agg #[.string ⟨s'.toArray⟩, .string ⟨p'.toArray⟩, .int .i64 r', .int .i64 f', .bool o', .slice bo mo dq, .slice bh mh dh, .slice bc mc dc]) rfl (by kernel_rfl) (fun _ _ _ h => h) (fun V hV => by go_simp) ?_
              refine fork2 (i := 8) (j := 9) (by kernel_rfl) (by kernel_rfl) ⟨XD, c0, c1, c2, c3, c4, c5, c6⟩ rfl rfl (fun K hK => ?_) (fun K hK => ?_)
              · go_wp2_with fail
                refine lastC (by kernel_rfl) (by kernel_rfl) ⟨XD, c0, c1, c2, c3, c4, c5, c6⟩ (of_decide_eq_true (by kernel_rfl)) ?_
                refine any_seqI [9] [_] _ _ _ rfl (by kernel_rfl) ?_
                have kx0 := XD.cell 0 _ rfl
                have kx1 := XD.cell 1 _ rfl
                have kx2 := XD.cell 2 _ rfl
                have kx3 := XD.cell 3 _ rfl
                have kx4 := XD.cell 4 _ rfl
                have kx5 := XD.cell 5 _ rfl
                have kx6 := XD.cell 6 _ rfl
                have kx7 := XD.cell 7 _ rfl
                have fkx0 := XD.frozen 0
                have fkx1 := XD.frozen 1
                have fkx2 := XD.frozen 2
                have fkx3 := XD.frozen 3
                have fkx4 := XD.frozen 4
                have fkx5 := XD.frozen 5
                have fkx6 := XD.frozen 6
                have fkx7 := XD.frozen 7
                go_wp2_with fail
                go_roundw
                case rel => exact ⟨k + 1, by omega, by omega, by first | go_num | simp, _, _, _, _, _, _, _, _, _, _, HKN, (HKP.out : StKeep (2 * (k + 1)) room _)⟩
                case measure => simp [intOf]; omega
              · skip
                have kx0 := XD.cell 0 _ rfl
                have kx1 := XD.cell 1 _ rfl
                have kx2 := XD.cell 2 _ rfl
                have kx3 := XD.cell 3 _ rfl
                have kx4 := XD.cell 4 _ rfl
                have kx5 := XD.cell 5 _ rfl
                have kx6 := XD.cell 6 _ rfl
                have kx7 := XD.cell 7 _ rfl
                have fkx0 := XD.frozen 0
                have fkx1 := XD.frozen 1
                have fkx2 := XD.frozen 2
                have fkx3 := XD.frozen 3
                have fkx4 := XD.frozen 4
                have fkx5 := XD.frozen 5
                have fkx6 := XD.frozen 6
                have fkx7 := XD.frozen 7
                go_wp2_with fail
                refine .inl ⟨by kernel_rfl, ?_⟩
                refine any_seqI [8] [_] _ _ _ rfl (by kernel_rfl) ?_
                go_wp2_with fail
                go_roundw
                case rel => exact ⟨k + 1, by omega, by omega, by first | go_num | simp, _, _, _, _, _, _, _, _, _, _, HKN, (HKP.out : StKeep (2 * (k + 1)) room _)⟩
                case measure => simp [intOf]; omega
        · have i2 : ¬ (k : Int) < (150 : Int) := by omega
          obtain ⟨T9, hcr⟩ := keep_crash HP.out (by omega)
          obtain ⟨hgw, hgs, hgp⟩ := keep_good HP.out (by omega) hr2
          simp only at hgs hgp
          obtain ⟨s9, p9, r9, f9, o9⟩ := T9
          have D := fun W hS => pcrash17_any s p r f o (.slice ao no co) (.slice ah nh ch) (.slice ac nc cc) G x 1099511627776 (by omega) W hS
          rw [hcr] at D
          unfold OpenRes StoRes at D
          simp only [stC] at D
          clear hcr
          have X_s := X
          have A_z := Agr.refl w.heap.size wr
          have c_s0_1 := X_s.cell 0 _ rfl
          have fc_s0_1 := X_s.frozen 0
          have c_s1_2 := X_s.cell 1 _ rfl
          have fc_s1_2 := X_s.frozen 1
          have c_s2_3 := X_s.cell 2 _ rfl
          have fc_s2_3 := X_s.frozen 2
          have c_s3_4 := X_s.cell 3 _ rfl
          have fc_s3_4 := X_s.frozen 3
          have c_s4_5 := X_s.cell 4 _ rfl
          have fc_s4_5 := X_s.frozen 4
          have c_s5_6 := X_s.cell 5 _ rfl
          have fc_s5_6 := X_s.frozen 5
          have c_s6_7 := X_s.cell 6 _ rfl
          have fc_s6_7 := X_s.frozen 6
          have c_s7_8 := X_s.cell 7 _ rfl
          have fc_s7_8 := X_s.frozen 7
          go_wp2_with fail
          refine (D _ (HK.out.st _ A_z)).mono ?_
          rintro e_ w_9 ⟨uo_k, uh_k, uc_k, rfl, b_9, G_k, hT⟩
          clear c_s0_1 fc_s0_1 c_s1_2 fc_s1_2 c_s2_3 fc_s2_3 c_s3_4 fc_s3_4 c_s4_5 fc_s4_5 c_s5_6 fc_s5_6 c_s6_7 fc_s6_7 c_s7_8 fc_s7_8
          replace X_s := X_s.below b_9
          replace A_z := A_z.trans (Agr.below b_9)
          have B1 := hB.trans (b_9.mono hB.size)
          clear b_9
          have A_k := agrOf hT
          have HT_k := Lib.hid hT
          clear hT
          have I_k := HT_k.out _ A_k (StIn.zero _)
          obtain ⟨ao_k, no_k, co_k, ah_k, nh_k, ch_k, ac_k, nc_k, cc_k, rfl, rfl, rfl⟩ := I_k.slices
          replace X_s := X_s.alloc (.cells #[.string ⟨s9.toArray⟩, .string ⟨p9.toArray⟩, .int .i64 r9, .int .i64 f9, .bool o9, .slice ao_k no_k co_k, .slice ah_k nh_k ch_k, .slice ac_k nc_k cc_k] 28)
          replace I_k := I_k.below ((Below.refl _ _).alloc (Nat.le_refl _) (.cells #[.string ⟨s9.toArray⟩, .string ⟨p9.toArray⟩, .int .i64 r9, .int .i64 f9, .bool o9, .slice ao_k no_k co_k, .slice ah_k nh_k ch_k, .slice ac_k nc_k cc_k] 28))
          replace A_z := A_z.trans (Agr.below ((Below.refl _ _).alloc (Nat.le_refl _) (.cells #[.string ⟨s9.toArray⟩, .string ⟨p9.toArray⟩, .int .i64 r9, .int .i64 f9, .bool o9, .slice ao_k no_k co_k, .slice ah_k nh_k ch_k, .slice ac_k nc_k cc_k] 28)))
          replace A_k := A_k.trans (Agr.below ((Below.refl _ _).alloc (Nat.le_refl _) (.cells #[.string ⟨s9.toArray⟩, .string ⟨p9.toArray⟩, .int .i64 r9, .int .i64 f9, .bool o9, .slice ao_k no_k co_k, .slice ah_k nh_k ch_k, .slice ac_k nc_k cc_k] 28)))
          have X_k := SBox.new w_9 28 #[.string ⟨s9.toArray⟩, .string ⟨p9.toArray⟩, .int .i64 r9, .int .i64 f9, .bool o9, .slice ao_k no_k co_k, .slice ah_k nh_k ch_k, .slice ac_k nc_k cc_k]
          have l_k := Lib.hid B1.size
          have B2 := B1.alloc B1.size (.cells #[.string ⟨s9.toArray⟩, .string ⟨p9.toArray⟩, .int .i64 r9, .int .i64 f9, .bool o9, .slice ao_k no_k co_k, .slice ah_k nh_k ch_k, .slice ac_k nc_k cc_k] 28)
          clear B1
          have c_s0_10 := X_s.cell 0 _ rfl
          have fc_s0_10 := X_s.frozen 0
          have c_s1_11 := X_s.cell 1 _ rfl
          have fc_s1_11 := X_s.frozen 1
          have c_s2_12 := X_s.cell 2 _ rfl
          have fc_s2_12 := X_s.frozen 2
          have c_s3_13 := X_s.cell 3 _ rfl
          have fc_s3_13 := X_s.frozen 3
          have c_s4_14 := X_s.cell 4 _ rfl
          have fc_s4_14 := X_s.frozen 4
          have c_s5_15 := X_s.cell 5 _ rfl
          have fc_s5_15 := X_s.frozen 5
          have c_s6_16 := X_s.cell 6 _ rfl
          have fc_s6_16 := X_s.frozen 6
          have c_s7_17 := X_s.cell 7 _ rfl
          have fc_s7_17 := X_s.frozen 7
          have c_k0_18 := X_k.cell 0 _ rfl
          have fc_k0_18 := X_k.frozen 0
          have c_k1_19 := X_k.cell 1 _ rfl
          have fc_k1_19 := X_k.frozen 1
          have c_k2_20 := X_k.cell 2 _ rfl
          have fc_k2_20 := X_k.frozen 2
          have c_k3_21 := X_k.cell 3 _ rfl
          have fc_k3_21 := X_k.frozen 3
          have c_k4_22 := X_k.cell 4 _ rfl
          have fc_k4_22 := X_k.frozen 4
          have c_k5_23 := X_k.cell 5 _ rfl
          have fc_k5_23 := X_k.frozen 5
          have c_k6_24 := X_k.cell 6 _ rfl
          have fc_k6_24 := X_k.frozen 6
          have c_k7_25 := X_k.cell 7 _ rfl
          have fc_k7_25 := X_k.frozen 7
          go_wp2_with fail
          have D4 := rhas17_any s9 p9 s p r9 f9 r f o9 o _ _ _ _ _ _ G_k G x x _ I_k (HK.out.st _ A_z)
          rw [eqSd_yes rfl] at D4
          simp only [stC] at D4
          refine (D4).mono ?_
          rintro e_ w_26 ⟨rfl, b_26⟩
          clear c_s0_10 fc_s0_10 c_s1_11 fc_s1_11 c_s2_12 fc_s2_12 c_s3_13 fc_s3_13 c_s4_14 fc_s4_14 c_s5_15 fc_s5_15 c_s6_16 fc_s6_16 c_s7_17 fc_s7_17 c_k0_18 fc_k0_18 c_k1_19 fc_k1_19 c_k2_20 fc_k2_20 c_k3_21 fc_k3_21 c_k4_22 fc_k4_22 c_k5_23 fc_k5_23 c_k6_24 fc_k6_24 c_k7_25 fc_k7_25
          replace X_s := X_s.below b_26
          replace X_k := X_k.below b_26
          replace I_k := I_k.below b_26
          replace A_z := A_z.trans (Agr.below b_26)
          replace A_k := A_k.trans (Agr.below b_26)
          have B3 := B2.trans (b_26.mono B2.size)
          clear B2
          clear b_26
          go_wp2_with fail
          go_ret
          exact ⟨rfl, B3⟩
      · have i0 : ¬ (k : Int) < (n : Int) := by omega
        obtain ⟨T9, hcr⟩ := keep_crash HP.out (by omega)
        obtain ⟨hgw, hgs, hgp⟩ := keep_good HP.out (by omega) hr2
        simp only at hgs hgp
        obtain ⟨s9, p9, r9, f9, o9⟩ := T9
        have D := fun W hS => pcrash17_any s p r f o (.slice ao no co) (.slice ah nh ch) (.slice ac nc cc) G x 1099511627776 (by omega) W hS
        rw [hcr] at D
        unfold OpenRes StoRes at D
        simp only [stC] at D
        clear hcr
        have X_s := X
        have A_z := Agr.refl w.heap.size wr
        have c_s0_1 := X_s.cell 0 _ rfl
        have fc_s0_1 := X_s.frozen 0
        have c_s1_2 := X_s.cell 1 _ rfl
        have fc_s1_2 := X_s.frozen 1
        have c_s2_3 := X_s.cell 2 _ rfl
        have fc_s2_3 := X_s.frozen 2
        have c_s3_4 := X_s.cell 3 _ rfl
        have fc_s3_4 := X_s.frozen 3
        have c_s4_5 := X_s.cell 4 _ rfl
        have fc_s4_5 := X_s.frozen 4
        have c_s5_6 := X_s.cell 5 _ rfl
        have fc_s5_6 := X_s.frozen 5
        have c_s6_7 := X_s.cell 6 _ rfl
        have fc_s6_7 := X_s.frozen 6
        have c_s7_8 := X_s.cell 7 _ rfl
        have fc_s7_8 := X_s.frozen 7
        go_wp2_with fail
        refine (D _ (HK.out.st _ A_z)).mono ?_
        rintro e_ w_9 ⟨uo_k, uh_k, uc_k, rfl, b_9, G_k, hT⟩
        clear c_s0_1 fc_s0_1 c_s1_2 fc_s1_2 c_s2_3 fc_s2_3 c_s3_4 fc_s3_4 c_s4_5 fc_s4_5 c_s5_6 fc_s5_6 c_s6_7 fc_s6_7 c_s7_8 fc_s7_8
        replace X_s := X_s.below b_9
        replace A_z := A_z.trans (Agr.below b_9)
        have B1 := hB.trans (b_9.mono hB.size)
        clear b_9
        have A_k := agrOf hT
        have HT_k := Lib.hid hT
        clear hT
        have I_k := HT_k.out _ A_k (StIn.zero _)
        obtain ⟨ao_k, no_k, co_k, ah_k, nh_k, ch_k, ac_k, nc_k, cc_k, rfl, rfl, rfl⟩ := I_k.slices
        replace X_s := X_s.alloc (.cells #[.string ⟨s9.toArray⟩, .string ⟨p9.toArray⟩, .int .i64 r9, .int .i64 f9, .bool o9, .slice ao_k no_k co_k, .slice ah_k nh_k ch_k, .slice ac_k nc_k cc_k] 28)
        replace I_k := I_k.below ((Below.refl _ _).alloc (Nat.le_refl _) (.cells #[.string ⟨s9.toArray⟩, .string ⟨p9.toArray⟩, .int .i64 r9, .int .i64 f9, .bool o9, .slice ao_k no_k co_k, .slice ah_k nh_k ch_k, .slice ac_k nc_k cc_k] 28))
        replace A_z := A_z.trans (Agr.below ((Below.refl _ _).alloc (Nat.le_refl _) (.cells #[.string ⟨s9.toArray⟩, .string ⟨p9.toArray⟩, .int .i64 r9, .int .i64 f9, .bool o9, .slice ao_k no_k co_k, .slice ah_k nh_k ch_k, .slice ac_k nc_k cc_k] 28)))
        replace A_k := A_k.trans (Agr.below ((Below.refl _ _).alloc (Nat.le_refl _) (.cells #[.string ⟨s9.toArray⟩, .string ⟨p9.toArray⟩, .int .i64 r9, .int .i64 f9, .bool o9, .slice ao_k no_k co_k, .slice ah_k nh_k ch_k, .slice ac_k nc_k cc_k] 28)))
        have X_k := SBox.new w_9 28 #[.string ⟨s9.toArray⟩, .string ⟨p9.toArray⟩, .int .i64 r9, .int .i64 f9, .bool o9, .slice ao_k no_k co_k, .slice ah_k nh_k ch_k, .slice ac_k nc_k cc_k]
        have l_k := Lib.hid B1.size
        have B2 := B1.alloc B1.size (.cells #[.string ⟨s9.toArray⟩, .string ⟨p9.toArray⟩, .int .i64 r9, .int .i64 f9, .bool o9, .slice ao_k no_k co_k, .slice ah_k nh_k ch_k, .slice ac_k nc_k cc_k] 28)
        clear B1
        have c_s0_10 := X_s.cell 0 _ rfl
        have fc_s0_10 := X_s.frozen 0
        have c_s1_11 := X_s.cell 1 _ rfl
        have fc_s1_11 := X_s.frozen 1
        have c_s2_12 := X_s.cell 2 _ rfl
        have fc_s2_12 := X_s.frozen 2
        have c_s3_13 := X_s.cell 3 _ rfl
        have fc_s3_13 := X_s.frozen 3
        have c_s4_14 := X_s.cell 4 _ rfl
        have fc_s4_14 := X_s.frozen 4
        have c_s5_15 := X_s.cell 5 _ rfl
        have fc_s5_15 := X_s.frozen 5
        have c_s6_16 := X_s.cell 6 _ rfl
        have fc_s6_16 := X_s.frozen 6
        have c_s7_17 := X_s.cell 7 _ rfl
        have fc_s7_17 := X_s.frozen 7
        have c_k0_18 := X_k.cell 0 _ rfl
        have fc_k0_18 := X_k.frozen 0
        have c_k1_19 := X_k.cell 1 _ rfl
        have fc_k1_19 := X_k.frozen 1
        have c_k2_20 := X_k.cell 2 _ rfl
        have fc_k2_20 := X_k.frozen 2
        have c_k3_21 := X_k.cell 3 _ rfl
        have fc_k3_21 := X_k.frozen 3
        have c_k4_22 := X_k.cell 4 _ rfl
        have fc_k4_22 := X_k.frozen 4
        have c_k5_23 := X_k.cell 5 _ rfl
        have fc_k5_23 := X_k.frozen 5
        have c_k6_24 := X_k.cell 6 _ rfl
        have fc_k6_24 := X_k.frozen 6
        have c_k7_25 := X_k.cell 7 _ rfl
        have fc_k7_25 := X_k.frozen 7
        go_wp2_with fail
        have D4 := rhas17_any s9 p9 s p r9 f9 r f o9 o _ _ _ _ _ _ G_k G x x _ I_k (HK.out.st _ A_z)
        rw [eqSd_yes rfl] at D4
        simp only [stC] at D4
        refine (D4).mono ?_
        rintro e_ w_26 ⟨rfl, b_26⟩
        clear c_s0_10 fc_s0_10 c_s1_11 fc_s1_11 c_s2_12 fc_s2_12 c_s3_13 fc_s3_13 c_s4_14 fc_s4_14 c_s5_15 fc_s5_15 c_s6_16 fc_s6_16 c_s7_17 fc_s7_17 c_k0_18 fc_k0_18 c_k1_19 fc_k1_19 c_k2_20 fc_k2_20 c_k3_21 fc_k3_21 c_k4_22 fc_k4_22 c_k5_23 fc_k5_23 c_k6_24 fc_k6_24 c_k7_25 fc_k7_25
        replace X_s := X_s.below b_26
        replace X_k := X_k.below b_26
        replace I_k := I_k.below b_26
        replace A_z := A_z.trans (Agr.below b_26)
        replace A_k := A_k.trans (Agr.below b_26)
        have B3 := B2.trans (b_26.mono B2.size)
        clear B2
        clear b_26
        go_wp2_with fail
        go_ret
        exact ⟨rfl, B3⟩
end Go.Proofs.Ytngllioidfffdaa
