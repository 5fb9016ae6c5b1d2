/-
  StoreLasts: its walk.
-/
import Derived.Test.YtngllioidfffdaaZW17Keeps
import Derived.Test.YtngllioidfffdaaZW17Plain
import Derived.Test.YtngllioidfffdaaZLsS17
import Derived.Test.YtngllioidfffdaaGC
import Derived.Lib.Hide
namespace Go.Proofs.Ytngllioidfffdaa
set_option maxRecDepth 100000
open Go.RowKit
set_option linter.unusedVariables false
set_option linter.unusedSimpArgs false
attribute [local go_sem] ba_size farW_cell
theorem sto_info17 : (Try.prog.info? 28).map (fun i => (i.zero, i.size, i.bytes)) = some (some (.agg zS17), 8, 128) := by kernel_rfl
def LRel (w : World) (b6 : Nat) (room : Int) (k : Nat) (av : Value) (fr : Nat) (wr : World) : Prop := ∃ (s p : List UInt8) (r f : Int) (o : Bool) (vo vh vc : Value) (x : Sd) (HV : List StV) (HL : List Sd), Hid (LsS w wr b6 (s, p, r, f, o) vo vh vc x av HV HL) ∧ Hid (StL (2 * k) room ((s, p, r, f, o), x) HL fr) ∧ Hid (HL.length ≤ k + 1)
set_option maxHeartbeats 16000000 in
theorem lasts17_walk (l : List Ac7) (v : Value) (room : Int) (w : World) (hT : IsAc7 w v l) (hG : ∀ x ∈ l, goodAc x) (hr1 : -9223372036854775808 ≤ room) (hr2 : room ≤ 9223372036854775807) : Calls Try.prog 5 #[.int .i64 room, v] w fun e w' => e = .returned (.bool true) ∧ Below w.heap.size w w' := by
  obtain ⟨a, cap, rfl, k1, k2, k3, HC⟩ := hT.some_at
  obtain ⟨n, hn⟩ : ∃ n, l.length = n := ⟨_, rfl⟩
  have HN := Lib.hid hn
  rw [hn] at k1 k3 ⊢
  have HG := Lib.hid hG
  clear hT hn hG
  have C1 := fun W => pnew17_any room W
  unfold StoRes at C1
  by_cases hneg : room < 0
  · have hnew : newS room = ((([], [], 0, 0, false), ([], [], [])), 1) := by unfold newS newT; rw [if_pos hneg]
    rw [hnew] at C1
    simp only [stC] at C1
    clear hnew
    go_enter Try.func5, Try.ntmps5
    go_wp2_with fail
    refine (shown17_any _).mono ?_
    rintro e_ w_1 ⟨rfl, b_1⟩
    have B1 := (Below.refl w.heap.size w).trans (b_1.mono (Below.refl w.heap.size w).size)
    clear b_1
    go_wp2_with fail
    refine (C1 _).mono ?_
    rintro e_ w_2 ⟨uo_s, uh_s, uc_s, rfl, b_2, G_s, hT⟩
    have B2 := B1.trans (b_2.mono B1.size)
    clear B1
    clear b_2
    have A_s := agrOf hT
    have HT_s := Lib.hid hT
    clear hT
    have I_s := HT_s.out _ A_s (StIn.zero _)
    obtain ⟨ao_s, no_s, co_s, ah_s, nh_s, ch_s, ac_s, nc_s, cc_s, rfl, rfl, rfl⟩ := I_s.slices
    replace I_s := I_s.below ((Below.refl _ _).alloc (Nat.le_refl _) (.cells #[.string ⟨#[]⟩, .string ⟨#[]⟩, .int .i64 0, .int .i64 0, .bool false, .slice ao_s no_s co_s, .slice ah_s nh_s ch_s, .slice ac_s nc_s cc_s] 28))
    replace A_s := A_s.trans (Agr.below ((Below.refl _ _).alloc (Nat.le_refl _) (.cells #[.string ⟨#[]⟩, .string ⟨#[]⟩, .int .i64 0, .int .i64 0, .bool false, .slice ao_s no_s co_s, .slice ah_s nh_s ch_s, .slice ac_s nc_s cc_s] 28)))
    have X_s := SBox.new w_2 28 #[.string ⟨#[]⟩, .string ⟨#[]⟩, .int .i64 0, .int .i64 0, .bool false, .slice ao_s no_s co_s, .slice ah_s nh_s ch_s, .slice ac_s nc_s cc_s]
    have l_s := Lib.hid B2.size
    have B3 := B2.alloc B2.size (.cells #[.string ⟨#[]⟩, .string ⟨#[]⟩, .int .i64 0, .int .i64 0, .bool false, .slice ao_s no_s co_s, .slice ah_s nh_s ch_s, .slice ac_s nc_s cc_s] 28)
    clear B2
    go_wp2_with fail
    go_ret
    exact ⟨rfl, B3⟩
  · obtain ⟨hnew, hk0⟩ := stl_new room hneg
    have HK0 := Lib.hid hk0
    rw [hnew] at C1
    simp only [stC] at C1
    clear hnew hk0
    go_enter Try.func5, Try.ntmps5
    go_wp2_with fail
    refine (shown17_any _).mono ?_
    rintro e_ w_1 ⟨rfl, b_1⟩
    have B1 := (Below.refl w.heap.size w).trans (b_1.mono (Below.refl w.heap.size w).size)
    clear b_1
    have z1 := Lib.hid B1.size
    go_wp2_with fail
    refine (C1 _).mono ?_
    rintro e_ w_2 ⟨uo_s, uh_s, uc_s, rfl, b_2, G_s, hT⟩
    have B2 := B1.trans (b_2.mono B1.size)
    clear B1
    clear b_2
    have A_s := agrOf hT
    have HT_s := Lib.hid hT
    clear hT
    have I_s := HT_s.out _ A_s (StIn.zero _)
    obtain ⟨ao_s, no_s, co_s, ah_s, nh_s, ch_s, ac_s, nc_s, cc_s, rfl, rfl, rfl⟩ := I_s.slices
    replace I_s := I_s.below ((Below.refl _ _).alloc (Nat.le_refl _) (.cells #[.string ⟨#[]⟩, .string ⟨#[]⟩, .int .i64 room, .int .i64 (-1), .bool false, .slice ao_s no_s co_s, .slice ah_s nh_s ch_s, .slice ac_s nc_s cc_s] 28))
    replace A_s := A_s.trans (Agr.below ((Below.refl _ _).alloc (Nat.le_refl _) (.cells #[.string ⟨#[]⟩, .string ⟨#[]⟩, .int .i64 room, .int .i64 (-1), .bool false, .slice ao_s no_s co_s, .slice ah_s nh_s ch_s, .slice ac_s nc_s cc_s] 28)))
    have X_s := SBox.new w_2 28 #[.string ⟨#[]⟩, .string ⟨#[]⟩, .int .i64 room, .int .i64 (-1), .bool false, .slice ao_s no_s co_s, .slice ah_s nh_s ch_s, .slice ac_s nc_s cc_s]
    have l_s := Lib.hid B2.size
    have B3 := B2.alloc B2.size (.cells #[.string ⟨#[]⟩, .string ⟨#[]⟩, .int .i64 room, .int .i64 (-1), .bool false, .slice ao_s no_s co_s, .slice ah_s nh_s ch_s, .slice ac_s nc_s cc_s] 28)
    clear B2
    have L0 : LsS w (w_2.alloc (.cells #[.string ⟨#[]⟩, .string ⟨#[]⟩, .int .i64 room, .int .i64 (-1), .bool false, .slice ao_s no_s co_s, .slice ah_s nh_s ch_s, .slice ac_s nc_s cc_s] 28)) w_2.heap.size ([], [], room, -1, false) (.slice ao_s no_s co_s) (.slice ah_s nh_s ch_s) (.slice ac_s nc_s cc_s) ([], [], []) (.slice none 0 0) [] [] := ⟨B3, X_s, World.ownsRow_nil _ _ _ _, rfl, ⟨G_s, fun V hV => HT_s.out V (A_s.trans (hV.mono z1.out)) (StIn.zero V)⟩, fun i e y h1 _ => by simp at h1⟩
    have L1 := L0.anew (c0 := .string ⟨#[]⟩) (c1 := .string ⟨#[]⟩) (c2 := .int .i64 room) (c3 := .int .i64 (-1)) (c4 := .bool false) rfl
    have HL6 : w.heap.size ≤ w_2.heap.size := l_s.out
    obtain ⟨b6, hb6⟩ : ∃ b6, w_2.heap.size = b6 := ⟨_, rfl⟩
    simp only [World.size_alloc, hb6] at L1
    rw [hb6] at X_s HL6
    replace L1 := Lib.hid L1
    clear L0 I_s A_s HT_s
    have c_s0_3 := X_s.cell 0 _ rfl
    have fc_s0_3 := X_s.frozen 0
    have c_s1_4 := X_s.cell 1 _ rfl
    have fc_s1_4 := X_s.frozen 1
    have c_s2_5 := X_s.cell 2 _ rfl
    have fc_s2_5 := X_s.frozen 2
    have c_s3_6 := X_s.cell 3 _ rfl
    have fc_s3_6 := X_s.frozen 3
    have c_s4_7 := X_s.cell 4 _ rfl
    have fc_s4_7 := X_s.frozen 4
    have c_s5_8 := X_s.cell 5 _ rfl
    have fc_s5_8 := X_s.frozen 5
    have c_s6_9 := X_s.cell 6 _ rfl
    have fc_s6_9 := X_s.frozen 6
    have c_s7_10 := X_s.cell 7 _ rfl
    have fc_s7_10 := X_s.frozen 7
    go_wp2_with fail
    clear c_s0_3 fc_s0_3 c_s1_4 fc_s1_4 c_s2_5 fc_s2_5 c_s3_6 fc_s3_6 c_s4_7 fc_s4_7 c_s5_8 fc_s5_8 c_s6_9 fc_s6_9 c_s7_10 fc_s7_10
    clear C1 hb6 X_s
    go_loopw [8, 9, 10] (fun av fv iv wr => ∃ (k fr : Nat), k ≤ n ∧ k ≤ 150 ∧ iv = .int .i64 k ∧ fv = .int .i64 (fr : Int) ∧ LRel w b6 room k av fr wr) (fun _ _ i _ => n - (intOf i).toNat)
    case atStart => exact ⟨0, 0, Nat.zero_le _, by omega, rfl, rfl, _, _, _, _, _, _, _, _, _, _, _, L1, HK0, Lib.hid (Nat.le_refl _)⟩
    case round =>
      obtain ⟨k, fr, hk, hk2, rfl, rfl, s, p, r, f, o, vo, vh, vc, x, HV, HL, HK, HP, HQ⟩ := hrel
      obtain ⟨G, hG⟩ := HK.out.st
      obtain ⟨ao, no, co, ah, nh, ch, ac, nc, cc, rfl, rfl, rfl⟩ := (hG _ (Agr.refl _ _)).slices
      have HG0 := Lib.hid hG
      clear hG
      obtain ⟨ga, gc, hav, hgc⟩ := own_slice9 HK.out.row
      obtain ⟨m, hm⟩ : ∃ m, HV.length = m := ⟨_, rfl⟩
      have HM : Hid (HV.length = m ∧ HL.length = m) := ⟨hm, by rw [← HK.out.len]; exact hm⟩
      rw [hm] at hav hgc
      subst hav
      have hmk : m ≤ 151 := by rw [← HM.out.2]; have := HQ.out; omega
      clear hm
      have hB := HK.out.bel
      have X_s := HK.out.bx
      unfold stC at X_s
      simp only at X_s
      by_cases hlt : k < n
      · have i0 : (k : Int) < (n : Int) := by omega
        by_cases hlt2 : k < 150
        · have i2 : (k : Int) < (150 : Int) := by omega
          have hk1 : k < l.length := by rw [HN.out]; exact hlt
          obtain ⟨bb, off, rfl, hblt, hcell⟩ := HC.out k hk1
          have hga := HG.out l[k] (List.getElem_mem hk1)
          obtain ⟨⟨x0, x1, ⟨e0, e1, e2, e3⟩, x3⟩, hx⟩ : ∃ x, l[k] = x := ⟨_, rfl⟩
          rw [hx] at hcell hga
          obtain ⟨⟨ga1, ga2⟩, ga3⟩ := hga
          simp only at ga1 ga2 ga3
          have c0 := (hB.cell (p := ⟨bb, off + k * 7, none⟩) hblt).trans (hcell 0 _ rfl)
          have c1 := (hB.cell (p := ⟨bb, off + k * 7 + 1, none⟩) hblt).trans (hcell 1 _ rfl)
          have c2 := (hB.cell (p := ⟨bb, off + k * 7 + 2, none⟩) hblt).trans (hcell 2 _ rfl)
          have c3 := (hB.cell (p := ⟨bb, off + k * 7 + 3, none⟩) hblt).trans (hcell 3 _ rfl)
          have c4 := (hB.cell (p := ⟨bb, off + k * 7 + 4, none⟩) hblt).trans (hcell 4 _ rfl)
          have c5 := (hB.cell (p := ⟨bb, off + k * 7 + 5, none⟩) hblt).trans (hcell 5 _ rfl)
          have c6 := (hB.cell (p := ⟨bb, off + k * 7 + 6, none⟩) hblt).trans (hcell 6 _ rfl)
          clear hcell hx
          obtain ⟨hgw, hgs, hgp⟩ := stl_good HP.out (by omega) hr2
          simp only at hgs hgp
          have A_z := Agr.refl w.heap.size wr
          have K := HK.out
          by_cases e5 : x0 = 5
          · subst e5
            obtain ⟨⟨s9, p9, r9, f9, o9⟩, y9, i9, hcr, hfi, hiy, hnew⟩ := stl_crash HP.out (by omega) hr2 x1
            have HNW := Lib.hid hnew
            have HIY := Lib.hid (And.intro hfi hiy)
            have D := fun W hS => pcrash17_any s p r f o (.slice ao no co) (.slice ah nh ch) (.slice ac nc cc) G x x1 (by omega) W hS
            rw [hcr] at D
            unfold OpenRes StoRes at D
            simp only [stC] at D
            clear hcr hnew hfi hiy
            replace X_s := X_s.alloc (.cells #[.int .i64 5, .int .i64 x1, .int .i64 e0, .int .i64 e1, .string ⟨e2.toArray⟩, .string ⟨e3.toArray⟩, .string ⟨x3.toArray⟩] 56)
            replace A_z := A_z.trans (Agr.below ((Below.refl _ _).alloc (Nat.le_refl _) (.cells #[.int .i64 5, .int .i64 x1, .int .i64 e0, .int .i64 e1, .string ⟨e2.toArray⟩, .string ⟨e3.toArray⟩, .string ⟨x3.toArray⟩] 56)))
            replace K := K.below ((Below.refl _ _).alloc (Nat.le_refl _) (.cells #[.int .i64 5, .int .i64 x1, .int .i64 e0, .int .i64 e1, .string ⟨e2.toArray⟩, .string ⟨e3.toArray⟩, .string ⟨x3.toArray⟩] 56))
            have X_a := SBox.new wr 56 #[.int .i64 5, .int .i64 x1, .int .i64 e0, .int .i64 e1, .string ⟨e2.toArray⟩, .string ⟨e3.toArray⟩, .string ⟨x3.toArray⟩]
            have l_a := Lib.hid hB.size
            have B1 := hB.alloc hB.size (.cells #[.int .i64 5, .int .i64 x1, .int .i64 e0, .int .i64 e1, .string ⟨e2.toArray⟩, .string ⟨e3.toArray⟩, .string ⟨x3.toArray⟩] 56)
            have c_s0_1 := X_s.cell 0 _ rfl
            have fc_s0_1 := X_s.frozen 0
            have c_s1_2 := X_s.cell 1 _ rfl
            have fc_s1_2 := X_s.frozen 1
            have c_s2_3 := X_s.cell 2 _ rfl
            have fc_s2_3 := X_s.frozen 2
            have c_s3_4 := X_s.cell 3 _ rfl
            have fc_s3_4 := X_s.frozen 3
            have c_s4_5 := X_s.cell 4 _ rfl
            have fc_s4_5 := X_s.frozen 4
            have c_s5_6 := X_s.cell 5 _ rfl
            have fc_s5_6 := X_s.frozen 5
            have c_s6_7 := X_s.cell 6 _ rfl
            have fc_s6_7 := X_s.frozen 6
            have c_s7_8 := X_s.cell 7 _ rfl
            have fc_s7_8 := X_s.frozen 7
            have c_a0_9 := X_a.cell 0 _ rfl
            have fc_a0_9 := X_a.frozen 0
            have c_a1_10 := X_a.cell 1 _ rfl
            have fc_a1_10 := X_a.frozen 1
            have c_a2_11 := X_a.cell 2 _ rfl
            have fc_a2_11 := X_a.frozen 2
            have c_a3_12 := X_a.cell 3 _ rfl
            have fc_a3_12 := X_a.frozen 3
            have c_a4_13 := X_a.cell 4 _ rfl
            have fc_a4_13 := X_a.frozen 4
            have c_a5_14 := X_a.cell 5 _ rfl
            have fc_a5_14 := X_a.frozen 5
            have c_a6_15 := X_a.cell 6 _ rfl
            have fc_a6_15 := X_a.frozen 6
            go_wp2_with fail
            have zk := Lib.hid B1.size
            refine (D _ (HG0.out _ A_z)).mono ?_
            rintro e_ w_16 ⟨uo_k, uh_k, uc_k, rfl, b_16, G_k, hT⟩
            clear c_s0_1 fc_s0_1 c_s1_2 fc_s1_2 c_s2_3 fc_s2_3 c_s3_4 fc_s3_4 c_s4_5 fc_s4_5 c_s5_6 fc_s5_6 c_s6_7 fc_s6_7 c_s7_8 fc_s7_8 c_a0_9 fc_a0_9 c_a1_10 fc_a1_10 c_a2_11 fc_a2_11 c_a3_12 fc_a3_12 c_a4_13 fc_a4_13 c_a5_14 fc_a5_14 c_a6_15 fc_a6_15
            replace X_s := X_s.below b_16
            replace X_a := X_a.below b_16
            replace A_z := A_z.trans (Agr.below b_16)
            replace K := K.below b_16
            have B2 := B1.trans (b_16.mono B1.size)
            clear B1
            clear b_16
            have A_k := agrOf hT
            have HT_k := Lib.hid hT
            clear hT
            have I_k := HT_k.out _ A_k (StIn.zero _)
            obtain ⟨ao_k, no_k, co_k, ah_k, nh_k, ch_k, ac_k, nc_k, cc_k, rfl, rfl, rfl⟩ := I_k.slices
            clear D
            replace X_s := X_s.alloc (.cells #[.string ⟨s9.toArray⟩, .string ⟨p9.toArray⟩, .int .i64 r9, .int .i64 f9, .bool o9, .slice ao_k no_k co_k, .slice ah_k nh_k ch_k, .slice ac_k nc_k cc_k] 28)
            replace X_a := X_a.alloc (.cells #[.string ⟨s9.toArray⟩, .string ⟨p9.toArray⟩, .int .i64 r9, .int .i64 f9, .bool o9, .slice ao_k no_k co_k, .slice ah_k nh_k ch_k, .slice ac_k nc_k cc_k] 28)
            replace I_k := I_k.below ((Below.refl _ _).alloc (Nat.le_refl _) (.cells #[.string ⟨s9.toArray⟩, .string ⟨p9.toArray⟩, .int .i64 r9, .int .i64 f9, .bool o9, .slice ao_k no_k co_k, .slice ah_k nh_k ch_k, .slice ac_k nc_k cc_k] 28))
            replace A_z := A_z.trans (Agr.below ((Below.refl _ _).alloc (Nat.le_refl _) (.cells #[.string ⟨s9.toArray⟩, .string ⟨p9.toArray⟩, .int .i64 r9, .int .i64 f9, .bool o9, .slice ao_k no_k co_k, .slice ah_k nh_k ch_k, .slice ac_k nc_k cc_k] 28)))
            replace A_k := A_k.trans (Agr.below ((Below.refl _ _).alloc (Nat.le_refl _) (.cells #[.string ⟨s9.toArray⟩, .string ⟨p9.toArray⟩, .int .i64 r9, .int .i64 f9, .bool o9, .slice ao_k no_k co_k, .slice ah_k nh_k ch_k, .slice ac_k nc_k cc_k] 28)))
            replace K := K.below ((Below.refl _ _).alloc (Nat.le_refl _) (.cells #[.string ⟨s9.toArray⟩, .string ⟨p9.toArray⟩, .int .i64 r9, .int .i64 f9, .bool o9, .slice ao_k no_k co_k, .slice ah_k nh_k ch_k, .slice ac_k nc_k cc_k] 28))
            have X_k := SBox.new w_16 28 #[.string ⟨s9.toArray⟩, .string ⟨p9.toArray⟩, .int .i64 r9, .int .i64 f9, .bool o9, .slice ao_k no_k co_k, .slice ah_k nh_k ch_k, .slice ac_k nc_k cc_k]
            have l_k := Lib.hid B2.size
            have B3 := B2.alloc B2.size (.cells #[.string ⟨s9.toArray⟩, .string ⟨p9.toArray⟩, .int .i64 r9, .int .i64 f9, .bool o9, .slice ao_k no_k co_k, .slice ah_k nh_k ch_k, .slice ac_k nc_k cc_k] 28)
            clear B2
            clear X_a
            have c_s0_17 := X_s.cell 0 _ rfl
            have fc_s0_17 := X_s.frozen 0
            have c_s1_18 := X_s.cell 1 _ rfl
            have fc_s1_18 := X_s.frozen 1
            have c_s2_19 := X_s.cell 2 _ rfl
            have fc_s2_19 := X_s.frozen 2
            have c_s3_20 := X_s.cell 3 _ rfl
            have fc_s3_20 := X_s.frozen 3
            have c_s4_21 := X_s.cell 4 _ rfl
            have fc_s4_21 := X_s.frozen 4
            have c_s5_22 := X_s.cell 5 _ rfl
            have fc_s5_22 := X_s.frozen 5
            have c_s6_23 := X_s.cell 6 _ rfl
            have fc_s6_23 := X_s.frozen 6
            have c_s7_24 := X_s.cell 7 _ rfl
            have fc_s7_24 := X_s.frozen 7
            have c_k0_25 := X_k.cell 0 _ rfl
            have fc_k0_25 := X_k.frozen 0
            have c_k1_26 := X_k.cell 1 _ rfl
            have fc_k1_26 := X_k.frozen 1
            have c_k2_27 := X_k.cell 2 _ rfl
            have fc_k2_27 := X_k.frozen 2
            have c_k3_28 := X_k.cell 3 _ rfl
            have fc_k3_28 := X_k.frozen 3
            have c_k4_29 := X_k.cell 4 _ rfl
            have fc_k4_29 := X_k.frozen 4
            have c_k5_30 := X_k.cell 5 _ rfl
            have fc_k5_30 := X_k.frozen 5
            have c_k6_31 := X_k.cell 6 _ rfl
            have fc_k6_31 := X_k.frozen 6
            have c_k7_32 := X_k.cell 7 _ rfl
            have fc_k7_32 := X_k.frozen 7
            go_wp2_with fail
            clear c_s0_17 fc_s0_17 c_s1_18 fc_s1_18 c_s2_19 fc_s2_19 c_s3_20 fc_s3_20 c_s4_21 fc_s4_21 c_s5_22 fc_s5_22 c_s6_23 fc_s6_23 c_s7_24 fc_s7_24 c_k0_25 fc_k0_25 c_k1_26 fc_k1_26 c_k2_27 fc_k2_27 c_k3_28 fc_k3_28 c_k4_29 fc_k4_29 c_k5_30 fc_k5_30 c_k6_31 fc_k6_31 c_k7_32 fc_k7_32
            generalize hW0 : (w_16.alloc (.cells #[.string ⟨s9.toArray⟩, .string ⟨p9.toArray⟩, .int .i64 r9, .int .i64 f9, .bool o9, .slice ao_k no_k co_k, .slice ah_k nh_k ch_k, .slice ac_k nc_k cc_k] 28)) = W0 at K X_k X_s I_k A_k A_z B3 ⊢
            have K0 := Lib.hid (And.intro K (And.intro X_k (And.intro A_k (And.intro A_z B3))))
            clear hW0 K X_k X_s I_k A_k A_z B3
            have hfr : fr ≤ m := by have := HIY.out; have := (List.getElem?_eq_some_iff.1 this.2).1; rw [HM.out.2] at this; omega
            go_loopw [14, 15] (fun inv jv wr2 => ∃ j : Nat, fr ≤ j ∧ j ≤ m ∧ jv = .int .i64 (j : Int) ∧ inv = .bool (anyB y9 HL fr j) ∧ Below W0.heap.size W0 wr2) (fun _ j _ => m - (intOf j).toNat)
            case atStart => exact ⟨fr, Nat.le_refl _, hfr, rfl, by rw [anyB_start], Below.refl _ _⟩
            case round =>
              obtain ⟨j, hj1, hj2, rfl, rfl, BW⟩ := hrel
              by_cases hjm : j < m
              · have jj : (j : Int) < (m : Int) := by omega
                have hjL : j < HL.length := by rw [HM.out.2]; exact hjm
                have hjV : j < HV.length := by rw [HM.out.1]; exact hjm
                have hnx := anyB_next y9 HL fr j hj1 hjL
                have HNX := Lib.hid hnx
                clear hnx
                cases hb : anyB y9 HL fr j
                · have HB9 := Lib.hid hb
                  clear hb
                  have KW := K0.out.1.below BW
                  obtain ⟨b2, o2, hga2, hcl⟩ := KW.at_ (by rw [HM.out.1]; omega) j hjV rfl
                  subst hga2
                  obtain ⟨⟨⟨s8, p8, r8, f8, o8⟩, vo8, vh8, vc8⟩, he8⟩ : ∃ e, HV[j] = e := ⟨_, rfl⟩
                  obtain ⟨G8, hG8⟩ := KW.els j _ _ (List.getElem?_eq_getElem hjV) (List.getElem?_eq_getElem hjL)
                  rw [he8] at hcl hG8
                  simp only at hG8
                  obtain ⟨jo, no4, co4, jh, nh4, ch4, jc, nc4, cc4, rfl, rfl, rfl⟩ := (hG8 _ (Agr.refl _ _)).slices
                  have HG8 := Lib.hid hG8
                  clear hG8 he8
                  have d0 := hcl 0 _ rfl
                  have d1 := hcl 1 _ rfl
                  have d2 := hcl 2 _ rfl
                  have d3 := hcl 3 _ rfl
                  have d4 := hcl 4 _ rfl
                  have d5 := hcl 5 _ rfl
                  have d6 := hcl 6 _ rfl
                  have d7 := hcl 7 _ rfl
                  simp only [Nat.add_zero] at d0
                  clear hcl
                  have X_k := K0.out.2.1.below BW
                  have u0 := X_k.cell 0 _ rfl
                  have u1 := X_k.cell 1 _ rfl
                  have u2 := X_k.cell 2 _ rfl
                  have u3 := X_k.cell 3 _ rfl
                  have u4 := X_k.cell 4 _ rfl
                  have u5 := X_k.cell 5 _ rfl
                  have u6 := X_k.cell 6 _ rfl
                  have u7 := X_k.cell 7 _ rfl
                  have fu0 := X_k.frozen 0
                  have fu1 := X_k.frozen 1
                  have fu2 := X_k.frozen 2
                  have fu3 := X_k.frozen 3
                  have fu4 := X_k.frozen 4
                  have fu5 := X_k.frozen 5
                  have fu6 := X_k.frozen 6
                  have fu7 := X_k.frozen 7
                  have HBW := Lib.hid BW
                  have CH0 : ∀ U, Calls Try.prog 27 #[.agg #[.string ⟨s9.toArray⟩, .string ⟨p9.toArray⟩, .int .i64 r9, .int .i64 f9, .bool o9, .slice ao_k no_k co_k, .slice ah_k nh_k ch_k, .slice ac_k nc_k cc_k], .agg #[.string ⟨s8.toArray⟩, .string ⟨p8.toArray⟩, .int .i64 r8, .int .i64 f8, .bool o8, .slice jo no4 co4, .slice jh nh4 ch4, .slice jc nc4 cc4]] (farW wr U) fun e w' => e = .returned (.bool (eqSd y9 HL[j])) ∧ Below (farW wr U).heap.size (farW wr U) w' := fun U => by
                    have D := rhas17_any s9 p9 s8 p8 r9 f9 r8 f8 o9 o8 (.slice ao_k no_k co_k) (.slice ah_k nh_k ch_k) (.slice ac_k nc_k cc_k) (.slice jo no4 co4) (.slice jh nh4 ch4) (.slice jc nc4 cc4) G_k G8 y9 HL[j] (farW wr U) (HT_k.out _ ((K0.out.2.2.1.trans (Agr.below HBW.out)).trans (Agr.below (farW_bel wr U))) (StIn.zero _)) (HG8.out _ (Agr.below (farW_bel wr U)))
                    simp only [stC] at D
                    exact D
                  obtain ⟨bq, hbq⟩ : ∃ bq, eqSd y9 HL[j] = bq := ⟨_, rfl⟩
                  rw [hbq] at CH0
                  have HBQ := Lib.hid hbq
                  have CH := Lib.hid CH0
                  clear hbq CH0 KW BW X_k
                  go_wp2_with fail
                  refine region_far (by kernel_rfl) (by kernel_rfl) ?_
                  repeat (first | go_big_quiet_skip | (go_big_quiet_want; go_big_quiet_op; first | go_big_quiet_on | go_big_quiet_call (first | (go_at_call 27; exact calls_far (CH.out _)))))
                  refine wpQuiet_nil ?_
                  rintro w' ⟨U, rfl⟩
                  have FB := farW_bel wr U
                  have BZ := HBW.out.trans (FB.mono HBW.out.size)
                  clear FB CH HBW u0 fu0 u1 fu1 u2 fu2 u3 fu3 u4 fu4 u5 fu5 u6 fu6 u7 fu7 d0 d1 d2 d3 d4 d5 d6 d7
                  generalize farW wr U = wB at BZ ⊢
                  go_wp2_with fail
                  exact ⟨⟨j + 1, by omega, by omega, by first | go_num | simp, by rw [HNX.out, HB9.out, HBQ.out]; rfl, BZ⟩, by simp [intOf]; omega⟩
                · have HB9 := Lib.hid hb
                  clear hb
                  go_wp2_with fail
                  go_quiet (fail)
                  go_wp2_with fail
                  exact ⟨⟨j + 1, by omega, by omega, by first | go_num | simp, by rw [HNX.out, HB9.out]; rfl, below_drewN BW _⟩, by simp [intOf]; omega⟩
              · obtain rfl : j = m := by omega
                have hend : anyB y9 HL fr j = true := by have := anyB_end y9 HL fr i9 HIY.out.1 HIY.out.2; rwa [HM.out.2] at this
                rw [hend]
                clear hend
                have jj : ¬ (j : Int) < (j : Int) := by omega
                have K := K0.out.1.below BW
                have X_k := K0.out.2.1.below BW
                have AK := K0.out.2.2.1.trans (Agr.below BW)
                have u0 := X_k.cell 0 _ rfl
                have u1 := X_k.cell 1 _ rfl
                have u2 := X_k.cell 2 _ rfl
                have u3 := X_k.cell 3 _ rfl
                have u4 := X_k.cell 4 _ rfl
                have u5 := X_k.cell 5 _ rfl
                have u6 := X_k.cell 6 _ rfl
                have u7 := X_k.cell 7 _ rfl
                have fu0 := X_k.frozen 0
                have fu1 := X_k.frozen 1
                have fu2 := X_k.frozen 2
                have fu3 := X_k.frozen 3
                have fu4 := X_k.frozen 4
                have fu5 := X_k.frozen 5
                have fu6 := X_k.frozen 6
                have fu7 := X_k.frozen 7
                have X_s := K.bx
                unfold stC at X_s
                simp only at X_s
                have v0 := X_s.cell 0 _ rfl
                have v1 := X_s.cell 1 _ rfl
                have v2 := X_s.cell 2 _ rfl
                have v3 := X_s.cell 3 _ rfl
                have v4 := X_s.cell 4 _ rfl
                have v5 := X_s.cell 5 _ rfl
                have v6 := X_s.cell 6 _ rfl
                have v7 := X_s.cell 7 _ rfl
                have fv0 := X_s.frozen 0
                have fv1 := X_s.frozen 1
                have fv2 := X_s.frozen 2
                have fv3 := X_s.frozen 3
                have fv4 := X_s.frozen 4
                have fv5 := X_s.frozen 5
                have fv6 := X_s.frozen 6
                have fv7 := X_s.frozen 7
                go_upto_region 23 with fail
                clear u0 fu0 u1 fu1 u2 fu2 u3 fu3 u4 fu4 u5 fu5 u6 fu6 u7 fu7 v0 fv0 v1 fv1 v2 fv2 v3 fv3 v4 fv4 v5 fv5 v6 fv6 v7 fv7 X_k X_s
                have K1 := K.put (T' := (s9, p9, r9, f9, o9)) HL6 ⟨G_k, fun V hV => HT_k.out V (AK.trans (hV.mono zk.out)) (StIn.zero V)⟩ rfl (.string ⟨s9.toArray⟩) (.string ⟨p9.toArray⟩) (.int .i64 r9) (.int .i64 f9) (.bool o9) (.slice ao_k no_k co_k) (.slice ah_k nh_k ch_k) (.slice ac_k nc_k cc_k) rfl
                have X_s := K1.bx
                unfold stC at X_s
                simp only at X_s
                have v0 := X_s.cell 0 _ rfl
                have v1 := X_s.cell 1 _ rfl
                have v2 := X_s.cell 2 _ rfl
                have v3 := X_s.cell 3 _ rfl
                have v4 := X_s.cell 4 _ rfl
                have v5 := X_s.cell 5 _ rfl
                have v6 := X_s.cell 6 _ rfl
                have v7 := X_s.cell 7 _ rfl
                have fv0 := X_s.frozen 0
                have fv1 := X_s.frozen 1
                have fv2 := X_s.frozen 2
                have fv3 := X_s.frozen 3
                have fv4 := X_s.frozen 4
                have fv5 := X_s.frozen 5
                have fv6 := X_s.frozen 6
                have fv7 := X_s.frozen 7
                have K2 := K1.anew (c0 := .string ⟨s9.toArray⟩) (c1 := .string ⟨p9.toArray⟩) (c2 := .int .i64 r9) (c3 := .int .i64 f9) (c4 := .bool o9) rfl
                simp only [size_set17] at K2
                replace K2 := Lib.hid K2
                have hst : Hid (StL (2 * (k + 1)) room ((s9, p9, r9, f9, o9), y9) [y9] 0) := by have hs := HNW.out.same; rw [show 2 * k + 1 + 1 = 2 * (k + 1) by omega] at hs; exact hs
                have hR : LRel w b6 room (k + 1) _ 0 _ := ⟨s9, p9, r9, f9, o9, _, _, _, y9, _, [y9], K2, hst, Lib.hid (by simp)⟩
                clear K K1 AK X_s K2 hst
                go_wp2_with fail
                refine ⟨⟨k + 1, 0, by omega, by omega, by first | go_num | simp, rfl, hR⟩, ?_⟩
                simp [intOf]
                omega
          · have n5 : (x0 == 5) = false := beq_eq_false_iff_ne.2 e5
            obtain ⟨i0, hi, hz0, hz1, hz2⟩ := info_parts sto_info17
            have hwr := Lib.hid hB.size
            have D := fun W hS => does17_any s p r f o (.slice ao no co) (.slice ah nh ch) (.slice ac nc cc) G x x0 x1 e0 e1 e2 e3 x3 (by omega) hgw ⟨by omega, by omega⟩ W hS
            have hto := stl_act HP.out (x0, x1, (e0, e1, e2, e3), x3) ga2
            obtain ⟨s', p', r', f', o', y9, E, hact⟩ : ∃ a b c d g y E, actS ((s, p, r, f, o), x) (x0, x1, (e0, e1, e2, e3), x3) = (((a, b, c, d, g), y), E) := ⟨_, _, _, _, _, _, _, rfl⟩
            rw [hact] at hto
            simp only [hact] at D
            unfold ActTo at hto
            simp only at hto
            unfold StoRes at D
            simp only [stC] at D
            have HTO := Lib.hid hto
            clear hact hto
            replace X_s := X_s.alloc (.cells #[.int .i64 x0, .int .i64 x1, .int .i64 e0, .int .i64 e1, .string ⟨e2.toArray⟩, .string ⟨e3.toArray⟩, .string ⟨x3.toArray⟩] 56)
            replace A_z := A_z.trans (Agr.below ((Below.refl _ _).alloc (Nat.le_refl _) (.cells #[.int .i64 x0, .int .i64 x1, .int .i64 e0, .int .i64 e1, .string ⟨e2.toArray⟩, .string ⟨e3.toArray⟩, .string ⟨x3.toArray⟩] 56)))
            replace K := K.below ((Below.refl _ _).alloc (Nat.le_refl _) (.cells #[.int .i64 x0, .int .i64 x1, .int .i64 e0, .int .i64 e1, .string ⟨e2.toArray⟩, .string ⟨e3.toArray⟩, .string ⟨x3.toArray⟩] 56))
            have X_a := SBox.new wr 56 #[.int .i64 x0, .int .i64 x1, .int .i64 e0, .int .i64 e1, .string ⟨e2.toArray⟩, .string ⟨e3.toArray⟩, .string ⟨x3.toArray⟩]
            have l_a := Lib.hid (Below.refl wr.heap.size wr).size
            have B2 := (Below.refl wr.heap.size wr).alloc (Below.refl wr.heap.size wr).size (.cells #[.int .i64 x0, .int .i64 x1, .int .i64 e0, .int .i64 e1, .string ⟨e2.toArray⟩, .string ⟨e3.toArray⟩, .string ⟨x3.toArray⟩] 56)
            have c_s0_1 := X_s.cell 0 _ rfl
            have fc_s0_1 := X_s.frozen 0
            have c_s1_2 := X_s.cell 1 _ rfl
            have fc_s1_2 := X_s.frozen 1
            have c_s2_3 := X_s.cell 2 _ rfl
            have fc_s2_3 := X_s.frozen 2
            have c_s3_4 := X_s.cell 3 _ rfl
            have fc_s3_4 := X_s.frozen 3
            have c_s4_5 := X_s.cell 4 _ rfl
            have fc_s4_5 := X_s.frozen 4
            have c_s5_6 := X_s.cell 5 _ rfl
            have fc_s5_6 := X_s.frozen 5
            have c_s6_7 := X_s.cell 6 _ rfl
            have fc_s6_7 := X_s.frozen 6
            have c_s7_8 := X_s.cell 7 _ rfl
            have fc_s7_8 := X_s.frozen 7
            have c_a0_9 := X_a.cell 0 _ rfl
            have fc_a0_9 := X_a.frozen 0
            have c_a1_10 := X_a.cell 1 _ rfl
            have fc_a1_10 := X_a.frozen 1
            have c_a2_11 := X_a.cell 2 _ rfl
            have fc_a2_11 := X_a.frozen 2
            have c_a3_12 := X_a.cell 3 _ rfl
            have fc_a3_12 := X_a.frozen 3
            have c_a4_13 := X_a.cell 4 _ rfl
            have fc_a4_13 := X_a.frozen 4
            have c_a5_14 := X_a.cell 5 _ rfl
            have fc_a5_14 := X_a.frozen 5
            have c_a6_15 := X_a.cell 6 _ rfl
            have fc_a6_15 := X_a.frozen 6
            go_wp2_with fail
            have zk : Hid (w.heap.size ≤ (wr.alloc (.cells #[.int .i64 x0, .int .i64 x1, .int .i64 e0, .int .i64 e1, .string ⟨e2.toArray⟩, .string ⟨e3.toArray⟩, .string ⟨x3.toArray⟩] 56)).heap.size) := Nat.le_trans hwr.out B2.size
            refine (D _ (HG0.out _ A_z)).mono ?_
            rintro e_ w_16 ⟨uo_k, uh_k, uc_k, rfl, b_16, G_k, hT⟩
            clear c_s0_1 fc_s0_1 c_s1_2 fc_s1_2 c_s2_3 fc_s2_3 c_s3_4 fc_s3_4 c_s4_5 fc_s4_5 c_s5_6 fc_s5_6 c_s6_7 fc_s6_7 c_s7_8 fc_s7_8 c_a0_9 fc_a0_9 c_a1_10 fc_a1_10 c_a2_11 fc_a2_11 c_a3_12 fc_a3_12 c_a4_13 fc_a4_13 c_a5_14 fc_a5_14 c_a6_15 fc_a6_15
            replace X_s := X_s.below b_16
            replace X_a := X_a.below b_16
            replace A_z := A_z.trans (Agr.below b_16)
            replace K := K.below b_16
            have B3 := B2.trans (b_16.mono B2.size)
            clear B2
            clear b_16
            have A_k := agrOf hT
            have HT_k := Lib.hid hT
            clear hT
            have I_k := HT_k.out _ A_k (HG0.out _ A_z)
            obtain ⟨ao_k, no_k, co_k, ah_k, nh_k, ch_k, ac_k, nc_k, cc_k, rfl, rfl, rfl⟩ := I_k.slices
            clear D
            have zkr := Lib.hid B3.size
            replace X_s := X_s.alloc (.cells #[.string ⟨s'.toArray⟩, .string ⟨p'.toArray⟩, .int .i64 r', .int .i64 f', .bool o', .slice ao_k no_k co_k, .slice ah_k nh_k ch_k, .slice ac_k nc_k cc_k] 28)
            replace X_a := X_a.alloc (.cells #[.string ⟨s'.toArray⟩, .string ⟨p'.toArray⟩, .int .i64 r', .int .i64 f', .bool o', .slice ao_k no_k co_k, .slice ah_k nh_k ch_k, .slice ac_k nc_k cc_k] 28)
            replace I_k := I_k.below ((Below.refl _ _).alloc (Nat.le_refl _) (.cells #[.string ⟨s'.toArray⟩, .string ⟨p'.toArray⟩, .int .i64 r', .int .i64 f', .bool o', .slice ao_k no_k co_k, .slice ah_k nh_k ch_k, .slice ac_k nc_k cc_k] 28))
            replace A_z := A_z.trans (Agr.below ((Below.refl _ _).alloc (Nat.le_refl _) (.cells #[.string ⟨s'.toArray⟩, .string ⟨p'.toArray⟩, .int .i64 r', .int .i64 f', .bool o', .slice ao_k no_k co_k, .slice ah_k nh_k ch_k, .slice ac_k nc_k cc_k] 28)))
            replace A_k := A_k.trans (Agr.below ((Below.refl _ _).alloc (Nat.le_refl _) (.cells #[.string ⟨s'.toArray⟩, .string ⟨p'.toArray⟩, .int .i64 r', .int .i64 f', .bool o', .slice ao_k no_k co_k, .slice ah_k nh_k ch_k, .slice ac_k nc_k cc_k] 28)))
            replace K := K.below ((Below.refl _ _).alloc (Nat.le_refl _) (.cells #[.string ⟨s'.toArray⟩, .string ⟨p'.toArray⟩, .int .i64 r', .int .i64 f', .bool o', .slice ao_k no_k co_k, .slice ah_k nh_k ch_k, .slice ac_k nc_k cc_k] 28))
            have X_k := SBox.new w_16 28 #[.string ⟨s'.toArray⟩, .string ⟨p'.toArray⟩, .int .i64 r', .int .i64 f', .bool o', .slice ao_k no_k co_k, .slice ah_k nh_k ch_k, .slice ac_k nc_k cc_k]
            have l_k := Lib.hid B3.size
            have B4 := B3.alloc B3.size (.cells #[.string ⟨s'.toArray⟩, .string ⟨p'.toArray⟩, .int .i64 r', .int .i64 f', .bool o', .slice ao_k no_k co_k, .slice ah_k nh_k ch_k, .slice ac_k nc_k cc_k] 28)
            clear B3
            rcases HTO.out with ⟨rfl, hL⟩ | ⟨rfl, rfl, hL⟩ | ⟨hE, hn6, hL⟩
            · skip
              clear HTO
              have u0 := X_k.cell 0 _ rfl
              have u1 := X_k.cell 1 _ rfl
              have u2 := X_k.cell 2 _ rfl
              have u3 := X_k.cell 3 _ rfl
              have u4 := X_k.cell 4 _ rfl
              have u5 := X_k.cell 5 _ rfl
              have u6 := X_k.cell 6 _ rfl
              have u7 := X_k.cell 7 _ rfl
              have fu0 := X_k.frozen 0
              have fu1 := X_k.frozen 1
              have fu2 := X_k.frozen 2
              have fu3 := X_k.frozen 3
              have fu4 := X_k.frozen 4
              have fu5 := X_k.frozen 5
              have fu6 := X_k.frozen 6
              have fu7 := X_k.frozen 7
              have v0 := X_s.cell 0 _ rfl
              have v1 := X_s.cell 1 _ rfl
              have v2 := X_s.cell 2 _ rfl
              have v3 := X_s.cell 3 _ rfl
              have v4 := X_s.cell 4 _ rfl
              have v5 := X_s.cell 5 _ rfl
              have v6 := X_s.cell 6 _ rfl
              have v7 := X_s.cell 7 _ rfl
              have fv0 := X_s.frozen 0
              have fv1 := X_s.frozen 1
              have fv2 := X_s.frozen 2
              have fv3 := X_s.frozen 3
              have fv4 := X_s.frozen 4
              have fv5 := X_s.frozen 5
              have fv6 := X_s.frozen 6
              have fv7 := X_s.frozen 7
              have q0 := X_a.cell 0 _ rfl
              have q1 := X_a.cell 1 _ rfl
              have q2 := X_a.cell 2 _ rfl
              have q3 := X_a.cell 3 _ rfl
              have q4 := X_a.cell 4 _ rfl
              have q5 := X_a.cell 5 _ rfl
              have q6 := X_a.cell 6 _ rfl
              have fq0 := X_a.frozen 0
              have fq1 := X_a.frozen 1
              have fq2 := X_a.frozen 2
              have fq3 := X_a.frozen 3
              have fq4 := X_a.frozen 4
              have fq5 := X_a.frozen 5
              have fq6 := X_a.frozen 6
              go_upto_region 27 with fail
              clear u0 fu0 u1 fu1 u2 fu2 u3 fu3 u4 fu4 u5 fu5 u6 fu6 u7 fu7 v0 fv0 v1 fv1 v2 fv2 v3 fv3 v4 fv4 v5 fv5 v6 fv6 v7 fv7 q0 fq0 q1 fq1 q2 fq2 q3 fq3 q4 fq4 q5 fq5 q6 fq6
              clear I_k
              generalize hWG : (w_16.alloc (.cells #[.string ⟨s'.toArray⟩, .string ⟨p'.toArray⟩, .int .i64 r', .int .i64 f', .bool o', .slice ao_k no_k co_k, .slice ah_k nh_k ch_k, .slice ac_k nc_k cc_k] 28)) = WG at K X_k X_s X_a A_k A_z ⊢
              clear hWG
              have u0 := X_k.cell 0 _ rfl
              have u1 := X_k.cell 1 _ rfl
              have u2 := X_k.cell 2 _ rfl
              have u3 := X_k.cell 3 _ rfl
              have u4 := X_k.cell 4 _ rfl
              have u5 := X_k.cell 5 _ rfl
              have u6 := X_k.cell 6 _ rfl
              have u7 := X_k.cell 7 _ rfl
              have fu0 := X_k.frozen 0
              have fu1 := X_k.frozen 1
              have fu2 := X_k.frozen 2
              have fu3 := X_k.frozen 3
              have fu4 := X_k.frozen 4
              have fu5 := X_k.frozen 5
              have fu6 := X_k.frozen 6
              have fu7 := X_k.frozen 7
              have v0 := X_s.cell 0 _ rfl
              have v1 := X_s.cell 1 _ rfl
              have v2 := X_s.cell 2 _ rfl
              have v3 := X_s.cell 3 _ rfl
              have v4 := X_s.cell 4 _ rfl
              have v5 := X_s.cell 5 _ rfl
              have v6 := X_s.cell 6 _ rfl
              have v7 := X_s.cell 7 _ rfl
              have fv0 := X_s.frozen 0
              have fv1 := X_s.frozen 1
              have fv2 := X_s.frozen 2
              have fv3 := X_s.frozen 3
              have fv4 := X_s.frozen 4
              have fv5 := X_s.frozen 5
              have fv6 := X_s.frozen 6
              have fv7 := X_s.frozen 7
              have q0 := X_a.cell 0 _ rfl
              have q1 := X_a.cell 1 _ rfl
              have q2 := X_a.cell 2 _ rfl
              have q3 := X_a.cell 3 _ rfl
              have q4 := X_a.cell 4 _ rfl
              have q5 := X_a.cell 5 _ rfl
              have q6 := X_a.cell 6 _ rfl
              have fq0 := X_a.frozen 0
              have fq1 := X_a.frozen 1
              have fq2 := X_a.frozen 2
              have fq3 := X_a.frozen 3
              have fq4 := X_a.frozen 4
              have fq5 := X_a.frozen 5
              have fq6 := X_a.frozen 6
              have KA := K.below ((Below.refl _ _).alloc (Nat.le_refl _) (.cells #[.string ⟨s'.toArray⟩, .string ⟨p'.toArray⟩, .int .i64 r', .int .i64 f', .bool o', .slice ao_k no_k co_k, .slice ah_k nh_k ch_k, .slice ac_k nc_k cc_k] 28))
              have ROW : Hid (World.ownsRow (WG.alloc (.cells #[.string ⟨s'.toArray⟩, .string ⟨p'.toArray⟩, .int .i64 r', .int .i64 f', .bool o', .slice ao_k no_k co_k, .slice ah_k nh_k ch_k, .slice ac_k nc_k cc_k] 28)) (b6 + 1) 28 8 (.slice ga m gc) m (recV stoV HV)) := by have h := KA.row; rw [HM.out.1] at h; exact h
              have NEWS := Lib.hid (news8_17 (SBox.new WG 28 #[.string ⟨s'.toArray⟩, .string ⟨p'.toArray⟩, .int .i64 r', .int .i64 f', .bool o', .slice ao_k no_k co_k, .slice ah_k nh_k ch_k, .slice ac_k nc_k cc_k]))
              replace X_k := X_k.alloc (.cells #[.string ⟨s'.toArray⟩, .string ⟨p'.toArray⟩, .int .i64 r', .int .i64 f', .bool o', .slice ao_k no_k co_k, .slice ah_k nh_k ch_k, .slice ac_k nc_k cc_k] 28)
              replace X_a := X_a.alloc (.cells #[.string ⟨s'.toArray⟩, .string ⟨p'.toArray⟩, .int .i64 r', .int .i64 f', .bool o', .slice ao_k no_k co_k, .slice ah_k nh_k ch_k, .slice ac_k nc_k cc_k] 28)
              replace A_z := A_z.trans (Agr.below ((Below.refl _ _).alloc (Nat.le_refl _) (.cells #[.string ⟨s'.toArray⟩, .string ⟨p'.toArray⟩, .int .i64 r', .int .i64 f', .bool o', .slice ao_k no_k co_k, .slice ah_k nh_k ch_k, .slice ac_k nc_k cc_k] 28)))
              replace A_k := A_k.trans (Agr.below ((Below.refl _ _).alloc (Nat.le_refl _) (.cells #[.string ⟨s'.toArray⟩, .string ⟨p'.toArray⟩, .int .i64 r', .int .i64 f', .bool o', .slice ao_k no_k co_k, .slice ah_k nh_k ch_k, .slice ac_k nc_k cc_k] 28)))
              go_wp2_with (at_builtin; refine wpList_append_own _ rfl _ _ 54 rfl (b6 + 1) 28 i0 (.agg zS17) 8 128 Try.underlying54 hi hz0 hz1 hz2 rfl (by decide) _ _ _ rfl (ROW.out) ⟨WG.heap.size, 0, none⟩ 1 1 [.string ⟨s'.toArray⟩, .string ⟨p'.toArray⟩, .int .i64 r', .int .i64 f', .bool o', .slice ao_k no_k co_k, .slice ah_k nh_k ch_k, .slice ac_k nc_k cc_k] rfl rfl NEWS.out ?d3 ?d4 ?d5 ?d6 ?_)
              case d3 => first | exact ⟨rfl, rfl, rfl, rfl, rfl, rfl, rfl, rfl⟩ | (intro u hu; simp at hu; rcases hu with rfl | rfl | rfl | rfl | rfl | rfl | rfl | rfl <;> rfl)
              case d4 => unfold maxLen; omega
              case d5 => omega
              case d6 => have h1 := K.bx.lt; first | omega | (simp only [World.size_alloc]; omega)
              intro v9 W9 own9 g9 _
              obtain ⟨g8, c8, rfl, hc8⟩ := own_slice9 own9
              have KP := KA.push (e := ((s', p', r', f', o'), .slice ao_k no_k co_k, .slice ah_k nh_k ch_k, .slice ac_k nc_k cc_k)) (y := y9) HL6 g9 (by rw [HM.out.1]; exact own9) ⟨G_k, fun V hV => HT_k.out V (A_k.trans (hV.mono zk.out)) (HG0.out V (A_z.trans hV))⟩
              replace X_k := X_k.far17 g9 HK.out.row (by first | exact Nat.le_refl _ | exact zkr.out | (have := zkr.out; omega))
              replace X_a := X_a.far17 g9 HK.out.row (by first | exact Nat.le_refl _ | exact zkr.out | (have := zkr.out; omega))
              replace A_z := A_z.trans (Agr.grown g9 (own_sto17 KA.row))
              replace A_k := A_k.trans (Agr.grown g9 (own_sto17 KA.row))
              replace K := KP
              clear KP KA ROW NEWS own9 g9
              clear u0 fu0 u1 fu1 u2 fu2 u3 fu3 u4 fu4 u5 fu5 u6 fu6 u7 fu7 v0 fv0 v1 fv1 v2 fv2 v3 fv3 v4 fv4 v5 fv5 v6 fv6 v7 fv7 q0 fq0 q1 fq1 q2 fq2 q3 fq3 q4 fq4 q5 fq5 q6 fq6
              replace X_s := K.bx
              unfold stC at X_s
              simp only at X_s
              have u0 := X_k.cell 0 _ rfl
              have u1 := X_k.cell 1 _ rfl
              have u2 := X_k.cell 2 _ rfl
              have u3 := X_k.cell 3 _ rfl
              have u4 := X_k.cell 4 _ rfl
              have u5 := X_k.cell 5 _ rfl
              have u6 := X_k.cell 6 _ rfl
              have u7 := X_k.cell 7 _ rfl
              have fu0 := X_k.frozen 0
              have fu1 := X_k.frozen 1
              have fu2 := X_k.frozen 2
              have fu3 := X_k.frozen 3
              have fu4 := X_k.frozen 4
              have fu5 := X_k.frozen 5
              have fu6 := X_k.frozen 6
              have fu7 := X_k.frozen 7
              have v0 := X_s.cell 0 _ rfl
              have v1 := X_s.cell 1 _ rfl
              have v2 := X_s.cell 2 _ rfl
              have v3 := X_s.cell 3 _ rfl
              have v4 := X_s.cell 4 _ rfl
              have v5 := X_s.cell 5 _ rfl
              have v6 := X_s.cell 6 _ rfl
              have v7 := X_s.cell 7 _ rfl
              have fv0 := X_s.frozen 0
              have fv1 := X_s.frozen 1
              have fv2 := X_s.frozen 2
              have fv3 := X_s.frozen 3
              have fv4 := X_s.frozen 4
              have fv5 := X_s.frozen 5
              have fv6 := X_s.frozen 6
              have fv7 := X_s.frozen 7
              have q0 := X_a.cell 0 _ rfl
              have q1 := X_a.cell 1 _ rfl
              have q2 := X_a.cell 2 _ rfl
              have q3 := X_a.cell 3 _ rfl
              have q4 := X_a.cell 4 _ rfl
              have q5 := X_a.cell 5 _ rfl
              have q6 := X_a.cell 6 _ rfl
              have fq0 := X_a.frozen 0
              have fq1 := X_a.frozen 1
              have fq2 := X_a.frozen 2
              have fq3 := X_a.frozen 3
              have fq4 := X_a.frozen 4
              have fq5 := X_a.frozen 5
              have fq6 := X_a.frozen 6
              have w9 : wrap64 ((m : Int) + 1 - 1) = (m : Int) := by unfold wrap64; omega
              have HLL := Lib.hid hL
              clear hL
              by_cases c2 : x0 = 2
              · subst c2
                rw [if_pos (.inl rfl), HM.out.2] at HLL
                have K1 := K.put (T' := (s', p', r', f', o')) HL6 ⟨G_k, fun V hV => HT_k.out V (A_k.trans (hV.mono zk.out)) (HG0.out V (A_z.trans hV))⟩ rfl (.string ⟨s'.toArray⟩) (.string ⟨p'.toArray⟩) (.int .i64 r') (.int .i64 f') (.bool o') (.slice ao_k no_k co_k) (.slice ah_k nh_k ch_k) (.slice ac_k nc_k cc_k) rfl
                replace K1 := Lib.hid K1
                have hR : LRel w b6 room (k + 1) _ m _ := ⟨s', p', r', f', o', _, _, _, y9, _, _, K1, HLL, Lib.hid (by have := HQ.out; rw [List.length_append]; exact Nat.succ_le_succ this)⟩
                clear K K1 A_k A_z HT_k HG0 HK HP
                go_wp2_with fail
                refine ⟨⟨k + 1, m, by omega, by omega, by first | go_num | simp, rfl, hR⟩, ?_⟩
                simp [intOf]
                omega
              · have n2 : (x0 == 2) = false := beq_eq_false_iff_ne.2 c2
                by_cases c3 : x0 = 3
                · subst c3
                  rw [if_pos (.inr rfl), HM.out.2] at HLL
                  have K1 := K.put (T' := (s', p', r', f', o')) HL6 ⟨G_k, fun V hV => HT_k.out V (A_k.trans (hV.mono zk.out)) (HG0.out V (A_z.trans hV))⟩ rfl (.string ⟨s'.toArray⟩) (.string ⟨p'.toArray⟩) (.int .i64 r') (.int .i64 f') (.bool o') (.slice ao_k no_k co_k) (.slice ah_k nh_k ch_k) (.slice ac_k nc_k cc_k) rfl
                  replace K1 := Lib.hid K1
                  have hR : LRel w b6 room (k + 1) _ m _ := ⟨s', p', r', f', o', _, _, _, y9, _, _, K1, HLL, Lib.hid (by have := HQ.out; rw [List.length_append]; exact Nat.succ_le_succ this)⟩
                  clear K K1 A_k A_z HT_k HG0 HK HP
                  go_wp2_with fail
                  refine ⟨⟨k + 1, m, by omega, by omega, by first | go_num | simp, rfl, hR⟩, ?_⟩
                  simp [intOf]
                  omega
                · have n3 : (x0 == 3) = false := beq_eq_false_iff_ne.2 c3
                  rw [if_neg (fun h => h.elim c2 c3)] at HLL
                  clear c2 c3
                  have K1 := K.put (T' := (s', p', r', f', o')) HL6 ⟨G_k, fun V hV => HT_k.out V (A_k.trans (hV.mono zk.out)) (HG0.out V (A_z.trans hV))⟩ rfl (.string ⟨s'.toArray⟩) (.string ⟨p'.toArray⟩) (.int .i64 r') (.int .i64 f') (.bool o') (.slice ao_k no_k co_k) (.slice ah_k nh_k ch_k) (.slice ac_k nc_k cc_k) rfl
                  replace K1 := Lib.hid K1
                  have hR : LRel w b6 room (k + 1) _ fr _ := ⟨s', p', r', f', o', _, _, _, y9, _, _, K1, HLL, Lib.hid (by have := HQ.out; rw [List.length_append]; exact Nat.succ_le_succ this)⟩
                  clear K K1 A_k A_z HT_k HG0 HK HP
                  go_wp2_with fail
                  refine ⟨⟨k + 1, fr, by omega, by omega, by first | go_num | simp, rfl, hR⟩, ?_⟩
                  simp [intOf]
                  omega
            · skip
              clear HTO
              have HLL := Lib.hid hL
              clear hL
              have u0 := X_k.cell 0 _ rfl
              have u1 := X_k.cell 1 _ rfl
              have u2 := X_k.cell 2 _ rfl
              have u3 := X_k.cell 3 _ rfl
              have u4 := X_k.cell 4 _ rfl
              have u5 := X_k.cell 5 _ rfl
              have u6 := X_k.cell 6 _ rfl
              have u7 := X_k.cell 7 _ rfl
              have fu0 := X_k.frozen 0
              have fu1 := X_k.frozen 1
              have fu2 := X_k.frozen 2
              have fu3 := X_k.frozen 3
              have fu4 := X_k.frozen 4
              have fu5 := X_k.frozen 5
              have fu6 := X_k.frozen 6
              have fu7 := X_k.frozen 7
              have v0 := X_s.cell 0 _ rfl
              have v1 := X_s.cell 1 _ rfl
              have v2 := X_s.cell 2 _ rfl
              have v3 := X_s.cell 3 _ rfl
              have v4 := X_s.cell 4 _ rfl
              have v5 := X_s.cell 5 _ rfl
              have v6 := X_s.cell 6 _ rfl
              have v7 := X_s.cell 7 _ rfl
              have fv0 := X_s.frozen 0
              have fv1 := X_s.frozen 1
              have fv2 := X_s.frozen 2
              have fv3 := X_s.frozen 3
              have fv4 := X_s.frozen 4
              have fv5 := X_s.frozen 5
              have fv6 := X_s.frozen 6
              have fv7 := X_s.frozen 7
              have q0 := X_a.cell 0 _ rfl
              have q1 := X_a.cell 1 _ rfl
              have q2 := X_a.cell 2 _ rfl
              have q3 := X_a.cell 3 _ rfl
              have q4 := X_a.cell 4 _ rfl
              have q5 := X_a.cell 5 _ rfl
              have q6 := X_a.cell 6 _ rfl
              have fq0 := X_a.frozen 0
              have fq1 := X_a.frozen 1
              have fq2 := X_a.frozen 2
              have fq3 := X_a.frozen 3
              have fq4 := X_a.frozen 4
              have fq5 := X_a.frozen 5
              have fq6 := X_a.frozen 6
              go_wp2_with fail
              have D := plain17_any s p r f false (.slice ao no co) (.slice ah nh ch) (.slice ac nc cc) G x x0 x1 e0 e1 e2 e3 x3 (by omega) _ (HG0.out _ A_z)
              unfold PlRes at D
              simp only [stC] at D
              refine D.mono ?_
              rintro e_ W5 ⟨⟨s7, p7, r7, f7, o7⟩, uo, uh, uc, rfl, b5, G7, hT7⟩
              clear u0 fu0 u1 fu1 u2 fu2 u3 fu3 u4 fu4 u5 fu5 u6 fu6 u7 fu7 v0 fv0 v1 fv1 v2 fv2 v3 fv3 v4 fv4 v5 fv5 v6 fv6 v7 fv7 q0 fq0 q1 fq1 q2 fq2 q3 fq3 q4 fq4 q5 fq5 q6 fq6
              clear D
              replace X_k := X_k.below b5
              replace X_s := X_s.below b5
              replace X_a := X_a.below b5
              have A_p := agrOf hT7
              have HT7 := Lib.hid hT7
              have zp : Hid (w.heap.size ≤ ((w_16.alloc (.cells #[.string ⟨s'.toArray⟩, .string ⟨p'.toArray⟩, .int .i64 r', .int .i64 f', .bool o', .slice ao_k no_k co_k, .slice ah_k nh_k ch_k, .slice ac_k nc_k cc_k] 28))).heap.size) := Nat.le_trans hwr.out (Nat.le_trans zkr.out (by simp only [World.size_alloc]; omega))
              clear hT7
              replace K := K.below b5
              replace A_z := A_z.trans (Agr.below b5)
              replace A_k := A_k.trans (Agr.below b5)
              clear b5 I_k
              obtain ⟨io, ko, lo, ih, kh, lh, ic, kc, lc, rfl, rfl, rfl⟩ := (HT7.out _ A_p (HG0.out _ A_z)).slices
              have KA := K.below ((Below.refl _ _).alloc (Nat.le_refl _) (.cells #[.string ⟨s7.toArray⟩, .string ⟨p7.toArray⟩, .int .i64 r7, .int .i64 f7, .bool o7, .slice io ko lo, .slice ih kh lh, .slice ic kc lc] 28))
              have ROW : Hid (World.ownsRow (W5.alloc (.cells #[.string ⟨s7.toArray⟩, .string ⟨p7.toArray⟩, .int .i64 r7, .int .i64 f7, .bool o7, .slice io ko lo, .slice ih kh lh, .slice ic kc lc] 28)) (b6 + 1) 28 8 (.slice ga m gc) m (recV stoV HV)) := by have h := KA.row; rw [HM.out.1] at h; exact h
              have NEWS := Lib.hid (news8_17 (SBox.new W5 28 #[.string ⟨s7.toArray⟩, .string ⟨p7.toArray⟩, .int .i64 r7, .int .i64 f7, .bool o7, .slice io ko lo, .slice ih kh lh, .slice ic kc lc]))
              replace X_k := X_k.alloc (.cells #[.string ⟨s7.toArray⟩, .string ⟨p7.toArray⟩, .int .i64 r7, .int .i64 f7, .bool o7, .slice io ko lo, .slice ih kh lh, .slice ic kc lc] 28)
              replace X_a := X_a.alloc (.cells #[.string ⟨s7.toArray⟩, .string ⟨p7.toArray⟩, .int .i64 r7, .int .i64 f7, .bool o7, .slice io ko lo, .slice ih kh lh, .slice ic kc lc] 28)
              replace A_z := A_z.trans (Agr.below ((Below.refl _ _).alloc (Nat.le_refl _) (.cells #[.string ⟨s7.toArray⟩, .string ⟨p7.toArray⟩, .int .i64 r7, .int .i64 f7, .bool o7, .slice io ko lo, .slice ih kh lh, .slice ic kc lc] 28)))
              replace A_k := A_k.trans (Agr.below ((Below.refl _ _).alloc (Nat.le_refl _) (.cells #[.string ⟨s7.toArray⟩, .string ⟨p7.toArray⟩, .int .i64 r7, .int .i64 f7, .bool o7, .slice io ko lo, .slice ih kh lh, .slice ic kc lc] 28)))
              replace A_p := A_p.trans (Agr.below ((Below.refl _ _).alloc (Nat.le_refl _) (.cells #[.string ⟨s7.toArray⟩, .string ⟨p7.toArray⟩, .int .i64 r7, .int .i64 f7, .bool o7, .slice io ko lo, .slice ih kh lh, .slice ic kc lc] 28)))
              go_wp2_with (at_builtin; refine wpList_append_own _ rfl _ _ 54 rfl (b6 + 1) 28 i0 (.agg zS17) 8 128 Try.underlying54 hi hz0 hz1 hz2 rfl (by decide) _ _ _ rfl (ROW.out) ⟨W5.heap.size, 0, none⟩ 1 1 [.string ⟨s7.toArray⟩, .string ⟨p7.toArray⟩, .int .i64 r7, .int .i64 f7, .bool o7, .slice io ko lo, .slice ih kh lh, .slice ic kc lc] rfl rfl NEWS.out ?d3 ?d4 ?d5 ?d6 ?_)
              case d3 => first | exact ⟨rfl, rfl, rfl, rfl, rfl, rfl, rfl, rfl⟩ | (intro u hu; simp at hu; rcases hu with rfl | rfl | rfl | rfl | rfl | rfl | rfl | rfl <;> rfl)
              case d4 => unfold maxLen; omega
              case d5 => omega
              case d6 => have h1 := K.bx.lt; first | omega | (simp only [World.size_alloc]; omega)
              intro v9 W9 own9 g9 _
              obtain ⟨g8, c8, rfl, hc8⟩ := own_slice9 own9
              have KP := KA.push (e := ((s7, p7, r7, f7, o7), .slice io ko lo, .slice ih kh lh, .slice ic kc lc)) (y := plS ((s, p, r, f, false), x) (x0, x1, (e0, e1, e2, e3), x3)) HL6 g9 (by rw [HM.out.1]; exact own9) ⟨G7, fun V hV => HT7.out V (A_p.trans (hV.mono zp.out)) (HG0.out V (A_z.trans hV))⟩
              replace X_k := X_k.far17 g9 HK.out.row (by first | exact Nat.le_refl _ | exact zkr.out | (have := zkr.out; omega))
              replace X_a := X_a.far17 g9 HK.out.row (by first | exact Nat.le_refl _ | exact zkr.out | (have := zkr.out; omega))
              replace A_z := A_z.trans (Agr.grown g9 (own_sto17 KA.row))
              replace A_k := A_k.trans (Agr.grown g9 (own_sto17 KA.row))
              replace K := KP
              clear KP KA ROW NEWS own9 g9
              replace X_s := K.bx
              unfold stC at X_s
              simp only at X_s
              have u0 := X_k.cell 0 _ rfl
              have u1 := X_k.cell 1 _ rfl
              have u2 := X_k.cell 2 _ rfl
              have u3 := X_k.cell 3 _ rfl
              have u4 := X_k.cell 4 _ rfl
              have u5 := X_k.cell 5 _ rfl
              have u6 := X_k.cell 6 _ rfl
              have u7 := X_k.cell 7 _ rfl
              have fu0 := X_k.frozen 0
              have fu1 := X_k.frozen 1
              have fu2 := X_k.frozen 2
              have fu3 := X_k.frozen 3
              have fu4 := X_k.frozen 4
              have fu5 := X_k.frozen 5
              have fu6 := X_k.frozen 6
              have fu7 := X_k.frozen 7
              have v0 := X_s.cell 0 _ rfl
              have v1 := X_s.cell 1 _ rfl
              have v2 := X_s.cell 2 _ rfl
              have v3 := X_s.cell 3 _ rfl
              have v4 := X_s.cell 4 _ rfl
              have v5 := X_s.cell 5 _ rfl
              have v6 := X_s.cell 6 _ rfl
              have v7 := X_s.cell 7 _ rfl
              have fv0 := X_s.frozen 0
              have fv1 := X_s.frozen 1
              have fv2 := X_s.frozen 2
              have fv3 := X_s.frozen 3
              have fv4 := X_s.frozen 4
              have fv5 := X_s.frozen 5
              have fv6 := X_s.frozen 6
              have fv7 := X_s.frozen 7
              have q0 := X_a.cell 0 _ rfl
              have q1 := X_a.cell 1 _ rfl
              have q2 := X_a.cell 2 _ rfl
              have q3 := X_a.cell 3 _ rfl
              have q4 := X_a.cell 4 _ rfl
              have q5 := X_a.cell 5 _ rfl
              have q6 := X_a.cell 6 _ rfl
              have fq0 := X_a.frozen 0
              have fq1 := X_a.frozen 1
              have fq2 := X_a.frozen 2
              have fq3 := X_a.frozen 3
              have fq4 := X_a.frozen 4
              have fq5 := X_a.frozen 5
              have fq6 := X_a.frozen 6
              have K1 := K.put (T' := (s', p', r', f', o')) HL6 ⟨G_k, fun V hV => HT_k.out V (A_k.trans (hV.mono zk.out)) (HG0.out V (A_z.trans hV))⟩ rfl (.string ⟨s'.toArray⟩) (.string ⟨p'.toArray⟩) (.int .i64 r') (.int .i64 f') (.bool o') (.slice ao_k no_k co_k) (.slice ah_k nh_k ch_k) (.slice ac_k nc_k cc_k) rfl
              replace K1 := Lib.hid K1
              have hR : LRel w b6 room (k + 1) _ fr _ := ⟨s', p', r', f', o', _, _, _, y9, _, _, K1, HLL, Lib.hid (by have := HQ.out; rw [List.length_append]; exact Nat.succ_le_succ this)⟩
              clear K K1 A_k A_z HT_k HG0 HK HP
              go_wp2_with fail
              refine ⟨⟨k + 1, fr, by omega, by omega, by first | go_num | simp, rfl, hR⟩, ?_⟩
              simp [intOf]
              omega
            · skip
              have HLL := Lib.hid hL
              have HE := Lib.hid (And.intro hE hn6)
              have hE0 : (E == 0) = false := beq_eq_false_iff_ne.2 hE
              clear hL hE HTO
              by_cases h6 : E = 6
              · subst h6
                have ho : o = true := by cases o; exact absurd ⟨rfl, rfl⟩ HE.out.2; rfl
                subst ho
                clear hn6
                have u0 := X_k.cell 0 _ rfl
                have u1 := X_k.cell 1 _ rfl
                have u2 := X_k.cell 2 _ rfl
                have u3 := X_k.cell 3 _ rfl
                have u4 := X_k.cell 4 _ rfl
                have u5 := X_k.cell 5 _ rfl
                have u6 := X_k.cell 6 _ rfl
                have u7 := X_k.cell 7 _ rfl
                have fu0 := X_k.frozen 0
                have fu1 := X_k.frozen 1
                have fu2 := X_k.frozen 2
                have fu3 := X_k.frozen 3
                have fu4 := X_k.frozen 4
                have fu5 := X_k.frozen 5
                have fu6 := X_k.frozen 6
                have fu7 := X_k.frozen 7
                have v0 := X_s.cell 0 _ rfl
                have v1 := X_s.cell 1 _ rfl
                have v2 := X_s.cell 2 _ rfl
                have v3 := X_s.cell 3 _ rfl
                have v4 := X_s.cell 4 _ rfl
                have v5 := X_s.cell 5 _ rfl
                have v6 := X_s.cell 6 _ rfl
                have v7 := X_s.cell 7 _ rfl
                have fv0 := X_s.frozen 0
                have fv1 := X_s.frozen 1
                have fv2 := X_s.frozen 2
                have fv3 := X_s.frozen 3
                have fv4 := X_s.frozen 4
                have fv5 := X_s.frozen 5
                have fv6 := X_s.frozen 6
                have fv7 := X_s.frozen 7
                have q0 := X_a.cell 0 _ rfl
                have q1 := X_a.cell 1 _ rfl
                have q2 := X_a.cell 2 _ rfl
                have q3 := X_a.cell 3 _ rfl
                have q4 := X_a.cell 4 _ rfl
                have q5 := X_a.cell 5 _ rfl
                have q6 := X_a.cell 6 _ rfl
                have fq0 := X_a.frozen 0
                have fq1 := X_a.frozen 1
                have fq2 := X_a.frozen 2
                have fq3 := X_a.frozen 3
                have fq4 := X_a.frozen 4
                have fq5 := X_a.frozen 5
                have fq6 := X_a.frozen 6
                have K1 := K.put (T' := (s', p', r', f', o')) HL6 ⟨G_k, fun V hV => HT_k.out V (A_k.trans (hV.mono zk.out)) (HG0.out V (A_z.trans hV))⟩ rfl (.string ⟨s'.toArray⟩) (.string ⟨p'.toArray⟩) (.int .i64 r') (.int .i64 f') (.bool o') (.slice ao_k no_k co_k) (.slice ah_k nh_k ch_k) (.slice ac_k nc_k cc_k) rfl
                replace K1 := Lib.hid K1
                have hR : LRel w b6 room (k + 1) _ fr _ := ⟨s', p', r', f', o', _, _, _, y9, _, _, K1, HLL, Lib.hid (by have := HQ.out; omega)⟩
                clear K K1 I_k A_k A_z HT_k HG0 HK HP
                go_wp2_with fail
                refine ⟨⟨k + 1, fr, by omega, by omega, by first | go_num | simp, rfl, hR⟩, ?_⟩
                simp [intOf]
                omega
              · have h60 : (E == 6) = false := beq_eq_false_iff_ne.2 h6
                clear h6 hn6
                have u0 := X_k.cell 0 _ rfl
                have u1 := X_k.cell 1 _ rfl
                have u2 := X_k.cell 2 _ rfl
                have u3 := X_k.cell 3 _ rfl
                have u4 := X_k.cell 4 _ rfl
                have u5 := X_k.cell 5 _ rfl
                have u6 := X_k.cell 6 _ rfl
                have u7 := X_k.cell 7 _ rfl
                have fu0 := X_k.frozen 0
                have fu1 := X_k.frozen 1
                have fu2 := X_k.frozen 2
                have fu3 := X_k.frozen 3
                have fu4 := X_k.frozen 4
                have fu5 := X_k.frozen 5
                have fu6 := X_k.frozen 6
                have fu7 := X_k.frozen 7
                have v0 := X_s.cell 0 _ rfl
                have v1 := X_s.cell 1 _ rfl
                have v2 := X_s.cell 2 _ rfl
                have v3 := X_s.cell 3 _ rfl
                have v4 := X_s.cell 4 _ rfl
                have v5 := X_s.cell 5 _ rfl
                have v6 := X_s.cell 6 _ rfl
                have v7 := X_s.cell 7 _ rfl
                have fv0 := X_s.frozen 0
                have fv1 := X_s.frozen 1
                have fv2 := X_s.frozen 2
                have fv3 := X_s.frozen 3
                have fv4 := X_s.frozen 4
                have fv5 := X_s.frozen 5
                have fv6 := X_s.frozen 6
                have fv7 := X_s.frozen 7
                have q0 := X_a.cell 0 _ rfl
                have q1 := X_a.cell 1 _ rfl
                have q2 := X_a.cell 2 _ rfl
                have q3 := X_a.cell 3 _ rfl
                have q4 := X_a.cell 4 _ rfl
                have q5 := X_a.cell 5 _ rfl
                have q6 := X_a.cell 6 _ rfl
                have fq0 := X_a.frozen 0
                have fq1 := X_a.frozen 1
                have fq2 := X_a.frozen 2
                have fq3 := X_a.frozen 3
                have fq4 := X_a.frozen 4
                have fq5 := X_a.frozen 5
                have fq6 := X_a.frozen 6
                have K1 := K.put (T' := (s', p', r', f', o')) HL6 ⟨G_k, fun V hV => HT_k.out V (A_k.trans (hV.mono zk.out)) (HG0.out V (A_z.trans hV))⟩ rfl (.string ⟨s'.toArray⟩) (.string ⟨p'.toArray⟩) (.int .i64 r') (.int .i64 f') (.bool o') (.slice ao_k no_k co_k) (.slice ah_k nh_k ch_k) (.slice ac_k nc_k cc_k) rfl
                replace K1 := Lib.hid K1
                have hR : LRel w b6 room (k + 1) _ fr _ := ⟨s', p', r', f', o', _, _, _, y9, _, _, K1, HLL, Lib.hid (by have := HQ.out; omega)⟩
                clear K K1 I_k A_k A_z HT_k HG0 HK HP
                go_wp2_with fail
                refine ⟨⟨k + 1, fr, by omega, by omega, by first | go_num | simp, rfl, hR⟩, ?_⟩
                simp [intOf]
                omega
        · have i2 : ¬ (k : Int) < (150 : Int) := by omega
          go_wp2_with fail
          go_ret
          exact ⟨rfl, hB⟩
      · have i0 : ¬ (k : Int) < (n : Int) := by omega
        go_wp2_with fail
        go_ret
        exact ⟨rfl, hB⟩
end Go.Proofs.Ytngllioidfffdaa
