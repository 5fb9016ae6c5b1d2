/-
  StoreActs: its walk.
-/
import Derived.Test.YtngllioidfffdaaZShown17
import Derived.Test.YtngllioidfffdaaZP17Same
import Derived.Test.YtngllioidfffdaaZR17Put
import Derived.Test.YtngllioidfffdaaZR17Crash
import Derived.Test.YtngllioidfffdaaGC
import Derived.Lib.Hide
namespace Go.Proofs.Ytngllioidfffdaa
set_option maxRecDepth 100000
open Go.RowKit
set_option linter.unusedVariables false
set_option linter.unusedSimpArgs false
attribute [local go_sem] ba_size farW_cell
set_option maxHeartbeats 32000000 in
theorem acts17_walk (s p s9 p9 : List UInt8) (r f r9 f9 : Int) (o o9 : Bool) (vo vh vc wo wh wc : Value) (H' G9 : List Value) (x z9 : Sd) (k t : Int) (a b body : List UInt8) (n : Int) (hg : goodW (s, p, r, f, o)) (hsp : s.length + p.length ≤ 8796093021952) (hb : body.length ≤ 562949953421312) (w : World) (hS : StIn w vo vh vc H' x) (hO : StIn w wo wh wc G9 z9) :
    Calls Try.prog 3 #[.agg (stC (s, p, r, f, o) vo vh vc ++ #[.int .i64 k, .int .i64 t, .string ⟨a.toArray⟩, .string ⟨b.toArray⟩] ++ #[.string ⟨body.toArray⟩, .int .i64 n] ++ stC (s9, p9, r9, f9, o9) wo wh wc)] w fun e w' => e = .returned (.bool true) ∧ Below w.heap.size w w' := by
  obtain ⟨ao_s, no_s, co_s, ah_s, nh_s, ch_s, ac_s, nc_s, cc_s, rfl, rfl, rfl⟩ := hS.slices
  obtain ⟨ao_o, no_o, co_o, ah_o, nh_o, ch_o, ac_o, nc_o, cc_o, rfl, rfl, rfl⟩ := hO.slices
  have HS := Lib.hid hS
  have HO := Lib.hid hO
  have hs2 : s.length ≤ 562949953421312 ∧ p.length ≤ 562949953421312 := ⟨by omega, by omega⟩
  obtain ⟨s1, p1, r1, f1, o1, X1, E1, h1⟩ : ∃ a' b' c d g X E, putS ((s, p, r, f, o), x) (k, t, a, b) = (((a', b', c, d, g), X), E) := ⟨_, _, _, _, _, _, _, rfl⟩
  have P1 := fun W hS => pput17_any s p r f o (.slice ao_s no_s co_s) (.slice ah_s nh_s ch_s) (.slice ac_s nc_s cc_s) H' x k t a b hg hs2 W hS
  have R1 := fun W hS => rput17_any s p r f o (.slice ao_s no_s co_s) (.slice ah_s nh_s ch_s) (.slice ac_s nc_s cc_s) H' x k t a b hg hs2 W hS
  rw [h1] at P1 R1
  obtain ⟨s2, p2, r2, f2, o2, X2, E2, h2⟩ : ∃ a' b' c d g X E, sealS ((s, p, r, f, o), x) = (((a', b', c, d, g), X), E) := ⟨_, _, _, _, _, _, _, rfl⟩
  have P2 := fun W hS => pseal17_any s p r f o (.slice ao_s no_s co_s) (.slice ah_s nh_s ch_s) (.slice ac_s nc_s cc_s) H' x hg hs2 W hS
  have R2 := fun W hS => rseal17_any s p r f o (.slice ao_s no_s co_s) (.slice ah_s nh_s ch_s) (.slice ac_s nc_s cc_s) H' x hg hs2 W hS
  rw [h2] at P2 R2
  obtain ⟨s3, p3, r3, f3, o3, X3, E3, h3⟩ : ∃ a' b' c d g X E, noteS ((s, p, r, f, o), x) body = (((a', b', c, d, g), X), E) := ⟨_, _, _, _, _, _, _, rfl⟩
  have P3 := fun W hS => pnote17_any s p r f o (.slice ao_s no_s co_s) (.slice ah_s nh_s ch_s) (.slice ac_s nc_s cc_s) H' x body hb hg hs2 W hS
  have R3 := fun W hS => rnote17_any s p r f o (.slice ao_s no_s co_s) (.slice ah_s nh_s ch_s) (.slice ac_s nc_s cc_s) H' x body hb hg hs2 W hS
  rw [h3] at P3 R3
  obtain ⟨s4, p4, r4, f4, o4, X4, E4, h4⟩ : ∃ a' b' c d g X E, crashS ((s, p, r, f, o), x) n = (((a', b', c, d, g), X), E) := ⟨_, _, _, _, _, _, _, rfl⟩
  have P4 := fun W hS => pcrash17_any s p r f o (.slice ao_s no_s co_s) (.slice ah_s nh_s ch_s) (.slice ac_s nc_s cc_s) H' x n hsp W hS
  have R4 := fun W hS => rcrash17_any s p r f o (.slice ao_s no_s co_s) (.slice ah_s nh_s ch_s) (.slice ac_s nc_s cc_s) H' x n hsp W hS
  rw [h4] at P4 R4
  obtain ⟨s5, p5, r5, f5, o5, X5, E5, h5⟩ : ∃ a' b' c d g X E, newS n = (((a', b', c, d, g), X), E) := ⟨_, _, _, _, _, _, _, rfl⟩
  have P5 := fun W => pnew17_any n W
  have R5 := fun W => rnew17_any n W
  rw [h5] at P5 R5
  obtain ⟨s6, p6, r6, f6, o6, h6⟩ : ∃ a' b' c d g, armT (s, p, r, f, o) n = (a', b', c, d, g) := ⟨_, _, _, _, _, rfl⟩
  have P6 := fun W hS => parm17_any s p r f o (.slice ao_s no_s co_s) (.slice ah_s nh_s ch_s) (.slice ac_s nc_s cc_s) H' x n W hS
  have R6 := fun W hS => rarm17_any s p r f o (.slice ao_s no_s co_s) (.slice ah_s nh_s ch_s) (.slice ac_s nc_s cc_s) H' x n W hS
  rw [h6] at P6 R6
  unfold OpenRes at P4 R4
  unfold StoRes at P1 R1 P2 R2 P3 R3 P4 R4 P5 R5
  simp only [stC] at P1 R1 P2 R2 P3 R3 P4 R4 P5 R5 P6 R6 ⊢
  replace P1 := Lib.hid P1
  replace R1 := Lib.hid R1
  replace P2 := Lib.hid P2
  replace R2 := Lib.hid R2
  replace P3 := Lib.hid P3
  replace R3 := Lib.hid R3
  replace P4 := Lib.hid P4
  replace R4 := Lib.hid R4
  replace P5 := Lib.hid P5
  replace R5 := Lib.hid R5
  replace P6 := Lib.hid P6
  replace R6 := Lib.hid R6
  obtain ⟨bq, hbq0⟩ : ∃ bq, (eqSd x z9 && decide ((s, p, r, f, o) = (s9, p9, r9, f9, o9))) = bq := ⟨_, rfl⟩
  have hbq := Lib.hid hbq0
  clear h1 h2 h3 h4 h5 h6 hS hO hg hsp hb hs2 hbq0
  change Calls Try.prog _ #[.agg #[.string ⟨s.toArray⟩, .string ⟨p.toArray⟩, .int .i64 r, .int .i64 f, .bool o, .slice ao_s no_s co_s, .slice ah_s nh_s ch_s, .slice ac_s nc_s cc_s, .int .i64 k, .int .i64 t, .string ⟨a.toArray⟩, .string ⟨b.toArray⟩, .string ⟨body.toArray⟩, .int .i64 n, .string ⟨s9.toArray⟩, .string ⟨p9.toArray⟩, .int .i64 r9, .int .i64 f9, .bool o9, .slice ao_o no_o co_o, .slice ah_o nh_o ch_o, .slice ac_o nc_o cc_o]] w _
  have X_w := SBox.new w 32 #[.string ⟨s.toArray⟩, .string ⟨p.toArray⟩, .int .i64 r, .int .i64 f, .bool o, .slice ao_s no_s co_s, .slice ah_s nh_s ch_s, .slice ac_s nc_s cc_s, .int .i64 k, .int .i64 t, .string ⟨a.toArray⟩, .string ⟨b.toArray⟩, .string ⟨body.toArray⟩, .int .i64 n, .string ⟨s9.toArray⟩, .string ⟨p9.toArray⟩, .int .i64 r9, .int .i64 f9, .bool o9, .slice ao_o no_o co_o, .slice ah_o nh_o ch_o, .slice ac_o nc_o cc_o]
  have l_w := Lib.hid (Below.refl w.heap.size w).size
  have B1 := (Below.refl w.heap.size w).alloc (Below.refl w.heap.size w).size (.cells #[.string ⟨s.toArray⟩, .string ⟨p.toArray⟩, .int .i64 r, .int .i64 f, .bool o, .slice ao_s no_s co_s, .slice ah_s nh_s ch_s, .slice ac_s nc_s cc_s, .int .i64 k, .int .i64 t, .string ⟨a.toArray⟩, .string ⟨b.toArray⟩, .string ⟨body.toArray⟩, .int .i64 n, .string ⟨s9.toArray⟩, .string ⟨p9.toArray⟩, .int .i64 r9, .int .i64 f9, .bool o9, .slice ao_o no_o co_o, .slice ah_o nh_o ch_o, .slice ac_o nc_o cc_o] 32)
  replace X_w := X_w.alloc (.cells #[.string ⟨s.toArray⟩, .string ⟨p.toArray⟩, .int .i64 r, .int .i64 f, .bool o, .slice ao_s no_s co_s, .slice ah_s nh_s ch_s, .slice ac_s nc_s cc_s] 28)
  have X_s := SBox.new (w.alloc (.cells #[.string ⟨s.toArray⟩, .string ⟨p.toArray⟩, .int .i64 r, .int .i64 f, .bool o, .slice ao_s no_s co_s, .slice ah_s nh_s ch_s, .slice ac_s nc_s cc_s, .int .i64 k, .int .i64 t, .string ⟨a.toArray⟩, .string ⟨b.toArray⟩, .string ⟨body.toArray⟩, .int .i64 n, .string ⟨s9.toArray⟩, .string ⟨p9.toArray⟩, .int .i64 r9, .int .i64 f9, .bool o9, .slice ao_o no_o co_o, .slice ah_o nh_o ch_o, .slice ac_o nc_o cc_o] 32)) 28 #[.string ⟨s.toArray⟩, .string ⟨p.toArray⟩, .int .i64 r, .int .i64 f, .bool o, .slice ao_s no_s co_s, .slice ah_s nh_s ch_s, .slice ac_s nc_s cc_s]
  have l_s := Lib.hid B1.size
  simp only [World.size_alloc, Nat.add_assoc, Nat.reduceAdd] at X_s
  have B2 := B1.alloc B1.size (.cells #[.string ⟨s.toArray⟩, .string ⟨p.toArray⟩, .int .i64 r, .int .i64 f, .bool o, .slice ao_s no_s co_s, .slice ah_s nh_s ch_s, .slice ac_s nc_s cc_s] 28)
  clear B1
  have g8 := X_w.cell 8 _ rfl
  have g9 := X_w.cell 9 _ rfl
  have g10 := X_w.cell 10 _ rfl
  have g11 := X_w.cell 11 _ rfl
  replace X_w := X_w.alloc (.cells #[.int .i64 k, .int .i64 t, .string ⟨a.toArray⟩, .string ⟨b.toArray⟩] 30)
  replace X_s := X_s.alloc (.cells #[.int .i64 k, .int .i64 t, .string ⟨a.toArray⟩, .string ⟨b.toArray⟩] 30)
  have X_x := SBox.new ((w.alloc (.cells #[.string ⟨s.toArray⟩, .string ⟨p.toArray⟩, .int .i64 r, .int .i64 f, .bool o, .slice ao_s no_s co_s, .slice ah_s nh_s ch_s, .slice ac_s nc_s cc_s, .int .i64 k, .int .i64 t, .string ⟨a.toArray⟩, .string ⟨b.toArray⟩, .string ⟨body.toArray⟩, .int .i64 n, .string ⟨s9.toArray⟩, .string ⟨p9.toArray⟩, .int .i64 r9, .int .i64 f9, .bool o9, .slice ao_o no_o co_o, .slice ah_o nh_o ch_o, .slice ac_o nc_o cc_o] 32)).alloc (.cells #[.string ⟨s.toArray⟩, .string ⟨p.toArray⟩, .int .i64 r, .int .i64 f, .bool o, .slice ao_s no_s co_s, .slice ah_s nh_s ch_s, .slice ac_s nc_s cc_s] 28)) 30 #[.int .i64 k, .int .i64 t, .string ⟨a.toArray⟩, .string ⟨b.toArray⟩]
  have l_x := Lib.hid B2.size
  simp only [World.size_alloc, Nat.add_assoc, Nat.reduceAdd] at X_x
  have B3 := B2.alloc B2.size (.cells #[.int .i64 k, .int .i64 t, .string ⟨a.toArray⟩, .string ⟨b.toArray⟩] 30)
  clear B2
  have g12 := X_w.cell 12 _ rfl
  have g13 := X_w.cell 13 _ rfl
  have g14 := X_w.cell 14 _ rfl
  have g15 := X_w.cell 15 _ rfl
  have g16 := X_w.cell 16 _ rfl
  have g17 := X_w.cell 17 _ rfl
  have g18 := X_w.cell 18 _ rfl
  have g19 := X_w.cell 19 _ rfl
  have g20 := X_w.cell 20 _ rfl
  have g21 := X_w.cell 21 _ rfl
  replace X_w := X_w.alloc (.cells #[.string ⟨s9.toArray⟩, .string ⟨p9.toArray⟩, .int .i64 r9, .int .i64 f9, .bool o9, .slice ao_o no_o co_o, .slice ah_o nh_o ch_o, .slice ac_o nc_o cc_o] 28)
  replace X_s := X_s.alloc (.cells #[.string ⟨s9.toArray⟩, .string ⟨p9.toArray⟩, .int .i64 r9, .int .i64 f9, .bool o9, .slice ao_o no_o co_o, .slice ah_o nh_o ch_o, .slice ac_o nc_o cc_o] 28)
  replace X_x := X_x.alloc (.cells #[.string ⟨s9.toArray⟩, .string ⟨p9.toArray⟩, .int .i64 r9, .int .i64 f9, .bool o9, .slice ao_o no_o co_o, .slice ah_o nh_o ch_o, .slice ac_o nc_o cc_o] 28)
  have X_o := SBox.new (((w.alloc (.cells #[.string ⟨s.toArray⟩, .string ⟨p.toArray⟩, .int .i64 r, .int .i64 f, .bool o, .slice ao_s no_s co_s, .slice ah_s nh_s ch_s, .slice ac_s nc_s cc_s, .int .i64 k, .int .i64 t, .string ⟨a.toArray⟩, .string ⟨b.toArray⟩, .string ⟨body.toArray⟩, .int .i64 n, .string ⟨s9.toArray⟩, .string ⟨p9.toArray⟩, .int .i64 r9, .int .i64 f9, .bool o9, .slice ao_o no_o co_o, .slice ah_o nh_o ch_o, .slice ac_o nc_o cc_o] 32)).alloc (.cells #[.string ⟨s.toArray⟩, .string ⟨p.toArray⟩, .int .i64 r, .int .i64 f, .bool o, .slice ao_s no_s co_s, .slice ah_s nh_s ch_s, .slice ac_s nc_s cc_s] 28)).alloc (.cells #[.int .i64 k, .int .i64 t, .string ⟨a.toArray⟩, .string ⟨b.toArray⟩] 30)) 28 #[.string ⟨s9.toArray⟩, .string ⟨p9.toArray⟩, .int .i64 r9, .int .i64 f9, .bool o9, .slice ao_o no_o co_o, .slice ah_o nh_o ch_o, .slice ac_o nc_o cc_o]
  have l_o := Lib.hid B3.size
  simp only [World.size_alloc, Nat.add_assoc, Nat.reduceAdd] at X_o
  have B4 := B3.alloc B3.size (.cells #[.string ⟨s9.toArray⟩, .string ⟨p9.toArray⟩, .int .i64 r9, .int .i64 f9, .bool o9, .slice ao_o no_o co_o, .slice ah_o nh_o ch_o, .slice ac_o nc_o cc_o] 28)
  clear B3
  go_enter Try.func3, Try.ntmps3
  go_wp2_with fail
  refine (shown17_any _).mono ?_
  rintro e_ w_1 ⟨rfl, b_1⟩
  replace X_w := X_w.below b_1
  replace X_s := X_s.below b_1
  replace X_x := X_x.below b_1
  replace X_o := X_o.below b_1
  have B5 := B4.trans (b_1.mono B4.size)
  clear B4
  clear b_1
  clear X_w g8 g9 g10 g11 g12 g13 g14 g15 g16 g17 g18 g19 g20 g21
  have c_s0_2 := X_s.cell 0 _ rfl
  have fc_s0_2 := X_s.frozen 0
  have c_s1_3 := X_s.cell 1 _ rfl
  have fc_s1_3 := X_s.frozen 1
  have c_s2_4 := X_s.cell 2 _ rfl
  have fc_s2_4 := X_s.frozen 2
  have c_s3_5 := X_s.cell 3 _ rfl
  have fc_s3_5 := X_s.frozen 3
  have c_s4_6 := X_s.cell 4 _ rfl
  have fc_s4_6 := X_s.frozen 4
  have c_s5_7 := X_s.cell 5 _ rfl
  have fc_s5_7 := X_s.frozen 5
  have c_s6_8 := X_s.cell 6 _ rfl
  have fc_s6_8 := X_s.frozen 6
  have c_s7_9 := X_s.cell 7 _ rfl
  have fc_s7_9 := X_s.frozen 7
  have c_x0_10 := X_x.cell 0 _ rfl
  have fc_x0_10 := X_x.frozen 0
  have c_x1_11 := X_x.cell 1 _ rfl
  have fc_x1_11 := X_x.frozen 1
  have c_x2_12 := X_x.cell 2 _ rfl
  have fc_x2_12 := X_x.frozen 2
  have c_x3_13 := X_x.cell 3 _ rfl
  have fc_x3_13 := X_x.frozen 3
  go_wp2_with fail
  refine (P1.out _ (HS.out.below B5)).mono ?_
  rintro e_ w_14 ⟨uo_a, uh_a, uc_a, rfl, b_14, G_a, hT⟩
  clear c_s0_2 fc_s0_2 c_s1_3 fc_s1_3 c_s2_4 fc_s2_4 c_s3_5 fc_s3_5 c_s4_6 fc_s4_6 c_s5_7 fc_s5_7 c_s6_8 fc_s6_8 c_s7_9 fc_s7_9 c_x0_10 fc_x0_10 c_x1_11 fc_x1_11 c_x2_12 fc_x2_12 c_x3_13 fc_x3_13
  replace X_s := X_s.below b_14
  replace X_x := X_x.below b_14
  replace X_o := X_o.below b_14
  have B6 := B5.trans (b_14.mono B5.size)
  clear B5
  clear b_14
  have A_a := agrOf hT
  have HT_a := Lib.hid hT
  clear hT
  have I_a := HT_a.out _ A_a (HS.out.below B6)
  obtain ⟨ao_a, no_a, co_a, ah_a, nh_a, ch_a, ac_a, nc_a, cc_a, rfl, rfl, rfl⟩ := I_a.slices
  replace X_s := X_s.alloc (.cells #[.string ⟨s1.toArray⟩, .string ⟨p1.toArray⟩, .int .i64 r1, .int .i64 f1, .bool o1, .slice ao_a no_a co_a, .slice ah_a nh_a ch_a, .slice ac_a nc_a cc_a] 28)
  replace X_x := X_x.alloc (.cells #[.string ⟨s1.toArray⟩, .string ⟨p1.toArray⟩, .int .i64 r1, .int .i64 f1, .bool o1, .slice ao_a no_a co_a, .slice ah_a nh_a ch_a, .slice ac_a nc_a cc_a] 28)
  replace X_o := X_o.alloc (.cells #[.string ⟨s1.toArray⟩, .string ⟨p1.toArray⟩, .int .i64 r1, .int .i64 f1, .bool o1, .slice ao_a no_a co_a, .slice ah_a nh_a ch_a, .slice ac_a nc_a cc_a] 28)
  replace I_a := I_a.below ((Below.refl _ _).alloc (Nat.le_refl _) (.cells #[.string ⟨s1.toArray⟩, .string ⟨p1.toArray⟩, .int .i64 r1, .int .i64 f1, .bool o1, .slice ao_a no_a co_a, .slice ah_a nh_a ch_a, .slice ac_a nc_a cc_a] 28))
  replace A_a := A_a.trans (Agr.below ((Below.refl _ _).alloc (Nat.le_refl _) (.cells #[.string ⟨s1.toArray⟩, .string ⟨p1.toArray⟩, .int .i64 r1, .int .i64 f1, .bool o1, .slice ao_a no_a co_a, .slice ah_a nh_a ch_a, .slice ac_a nc_a cc_a] 28)))
  have X_a := SBox.new w_14 28 #[.string ⟨s1.toArray⟩, .string ⟨p1.toArray⟩, .int .i64 r1, .int .i64 f1, .bool o1, .slice ao_a no_a co_a, .slice ah_a nh_a ch_a, .slice ac_a nc_a cc_a]
  have l_a := Lib.hid B6.size
  have B7 := B6.alloc B6.size (.cells #[.string ⟨s1.toArray⟩, .string ⟨p1.toArray⟩, .int .i64 r1, .int .i64 f1, .bool o1, .slice ao_a no_a co_a, .slice ah_a nh_a ch_a, .slice ac_a nc_a cc_a] 28)
  clear B6
  have c_s0_15 := X_s.cell 0 _ rfl
  have fc_s0_15 := X_s.frozen 0
  have c_s1_16 := X_s.cell 1 _ rfl
  have fc_s1_16 := X_s.frozen 1
  have c_s2_17 := X_s.cell 2 _ rfl
  have fc_s2_17 := X_s.frozen 2
  have c_s3_18 := X_s.cell 3 _ rfl
  have fc_s3_18 := X_s.frozen 3
  have c_s4_19 := X_s.cell 4 _ rfl
  have fc_s4_19 := X_s.frozen 4
  have c_s5_20 := X_s.cell 5 _ rfl
  have fc_s5_20 := X_s.frozen 5
  have c_s6_21 := X_s.cell 6 _ rfl
  have fc_s6_21 := X_s.frozen 6
  have c_s7_22 := X_s.cell 7 _ rfl
  have fc_s7_22 := X_s.frozen 7
  have c_x0_23 := X_x.cell 0 _ rfl
  have fc_x0_23 := X_x.frozen 0
  have c_x1_24 := X_x.cell 1 _ rfl
  have fc_x1_24 := X_x.frozen 1
  have c_x2_25 := X_x.cell 2 _ rfl
  have fc_x2_25 := X_x.frozen 2
  have c_x3_26 := X_x.cell 3 _ rfl
  have fc_x3_26 := X_x.frozen 3
  go_wp2_with fail
  refine (R1.out _ (HS.out.below B7)).mono ?_
  rintro e_ w_27 ⟨uo_b, uh_b, uc_b, rfl, b_27, G_b, hT⟩
  clear c_s0_15 fc_s0_15 c_s1_16 fc_s1_16 c_s2_17 fc_s2_17 c_s3_18 fc_s3_18 c_s4_19 fc_s4_19 c_s5_20 fc_s5_20 c_s6_21 fc_s6_21 c_s7_22 fc_s7_22 c_x0_23 fc_x0_23 c_x1_24 fc_x1_24 c_x2_25 fc_x2_25 c_x3_26 fc_x3_26
  replace X_s := X_s.below b_27
  replace X_x := X_x.below b_27
  replace X_o := X_o.below b_27
  replace X_a := X_a.below b_27
  replace I_a := I_a.below b_27
  replace A_a := A_a.trans (Agr.below b_27)
  have B8 := B7.trans (b_27.mono B7.size)
  clear B7
  clear b_27
  have A_b := agrOf hT
  have HT_b := Lib.hid hT
  clear hT
  have I_b := HT_b.out _ A_b (HS.out.below B8)
  obtain ⟨ao_b, no_b, co_b, ah_b, nh_b, ch_b, ac_b, nc_b, cc_b, rfl, rfl, rfl⟩ := I_b.slices
  replace X_s := X_s.alloc (.cells #[.string ⟨s1.toArray⟩, .string ⟨p1.toArray⟩, .int .i64 r1, .int .i64 f1, .bool o1, .slice ao_b no_b co_b, .slice ah_b nh_b ch_b, .slice ac_b nc_b cc_b] 28)
  replace X_x := X_x.alloc (.cells #[.string ⟨s1.toArray⟩, .string ⟨p1.toArray⟩, .int .i64 r1, .int .i64 f1, .bool o1, .slice ao_b no_b co_b, .slice ah_b nh_b ch_b, .slice ac_b nc_b cc_b] 28)
  replace X_o := X_o.alloc (.cells #[.string ⟨s1.toArray⟩, .string ⟨p1.toArray⟩, .int .i64 r1, .int .i64 f1, .bool o1, .slice ao_b no_b co_b, .slice ah_b nh_b ch_b, .slice ac_b nc_b cc_b] 28)
  replace X_a := X_a.alloc (.cells #[.string ⟨s1.toArray⟩, .string ⟨p1.toArray⟩, .int .i64 r1, .int .i64 f1, .bool o1, .slice ao_b no_b co_b, .slice ah_b nh_b ch_b, .slice ac_b nc_b cc_b] 28)
  replace I_a := I_a.below ((Below.refl _ _).alloc (Nat.le_refl _) (.cells #[.string ⟨s1.toArray⟩, .string ⟨p1.toArray⟩, .int .i64 r1, .int .i64 f1, .bool o1, .slice ao_b no_b co_b, .slice ah_b nh_b ch_b, .slice ac_b nc_b cc_b] 28))
  replace I_b := I_b.below ((Below.refl _ _).alloc (Nat.le_refl _) (.cells #[.string ⟨s1.toArray⟩, .string ⟨p1.toArray⟩, .int .i64 r1, .int .i64 f1, .bool o1, .slice ao_b no_b co_b, .slice ah_b nh_b ch_b, .slice ac_b nc_b cc_b] 28))
  replace A_a := A_a.trans (Agr.below ((Below.refl _ _).alloc (Nat.le_refl _) (.cells #[.string ⟨s1.toArray⟩, .string ⟨p1.toArray⟩, .int .i64 r1, .int .i64 f1, .bool o1, .slice ao_b no_b co_b, .slice ah_b nh_b ch_b, .slice ac_b nc_b cc_b] 28)))
  replace A_b := A_b.trans (Agr.below ((Below.refl _ _).alloc (Nat.le_refl _) (.cells #[.string ⟨s1.toArray⟩, .string ⟨p1.toArray⟩, .int .i64 r1, .int .i64 f1, .bool o1, .slice ao_b no_b co_b, .slice ah_b nh_b ch_b, .slice ac_b nc_b cc_b] 28)))
  have X_b := SBox.new w_27 28 #[.string ⟨s1.toArray⟩, .string ⟨p1.toArray⟩, .int .i64 r1, .int .i64 f1, .bool o1, .slice ao_b no_b co_b, .slice ah_b nh_b ch_b, .slice ac_b nc_b cc_b]
  have l_b := Lib.hid B8.size
  have B9 := B8.alloc B8.size (.cells #[.string ⟨s1.toArray⟩, .string ⟨p1.toArray⟩, .int .i64 r1, .int .i64 f1, .bool o1, .slice ao_b no_b co_b, .slice ah_b nh_b ch_b, .slice ac_b nc_b cc_b] 28)
  clear B8
  have c_s0_28 := X_s.cell 0 _ rfl
  have fc_s0_28 := X_s.frozen 0
  have c_s1_29 := X_s.cell 1 _ rfl
  have fc_s1_29 := X_s.frozen 1
  have c_s2_30 := X_s.cell 2 _ rfl
  have fc_s2_30 := X_s.frozen 2
  have c_s3_31 := X_s.cell 3 _ rfl
  have fc_s3_31 := X_s.frozen 3
  have c_s4_32 := X_s.cell 4 _ rfl
  have fc_s4_32 := X_s.frozen 4
  have c_s5_33 := X_s.cell 5 _ rfl
  have fc_s5_33 := X_s.frozen 5
  have c_s6_34 := X_s.cell 6 _ rfl
  have fc_s6_34 := X_s.frozen 6
  have c_s7_35 := X_s.cell 7 _ rfl
  have fc_s7_35 := X_s.frozen 7
  have c_x0_36 := X_x.cell 0 _ rfl
  have fc_x0_36 := X_x.frozen 0
  have c_x1_37 := X_x.cell 1 _ rfl
  have fc_x1_37 := X_x.frozen 1
  have c_x2_38 := X_x.cell 2 _ rfl
  have fc_x2_38 := X_x.frozen 2
  have c_x3_39 := X_x.cell 3 _ rfl
  have fc_x3_39 := X_x.frozen 3
  go_wp2_with fail
  refine (P2.out _ (HS.out.below B9)).mono ?_
  rintro e_ w_40 ⟨uo_c, uh_c, uc_c, rfl, b_40, G_c, hT⟩
  clear c_s0_28 fc_s0_28 c_s1_29 fc_s1_29 c_s2_30 fc_s2_30 c_s3_31 fc_s3_31 c_s4_32 fc_s4_32 c_s5_33 fc_s5_33 c_s6_34 fc_s6_34 c_s7_35 fc_s7_35 c_x0_36 fc_x0_36 c_x1_37 fc_x1_37 c_x2_38 fc_x2_38 c_x3_39 fc_x3_39
  replace X_s := X_s.below b_40
  replace X_x := X_x.below b_40
  replace X_o := X_o.below b_40
  replace X_a := X_a.below b_40
  replace X_b := X_b.below b_40
  replace I_a := I_a.below b_40
  replace I_b := I_b.below b_40
  replace A_a := A_a.trans (Agr.below b_40)
  replace A_b := A_b.trans (Agr.below b_40)
  have B10 := B9.trans (b_40.mono B9.size)
  clear B9
  clear b_40
  have A_c := agrOf hT
  have HT_c := Lib.hid hT
  clear hT
  have I_c := HT_c.out _ A_c (HS.out.below B10)
  obtain ⟨ao_c, no_c, co_c, ah_c, nh_c, ch_c, ac_c, nc_c, cc_c, rfl, rfl, rfl⟩ := I_c.slices
  replace X_s := X_s.alloc (.cells #[.string ⟨s2.toArray⟩, .string ⟨p2.toArray⟩, .int .i64 r2, .int .i64 f2, .bool o2, .slice ao_c no_c co_c, .slice ah_c nh_c ch_c, .slice ac_c nc_c cc_c] 28)
  replace X_x := X_x.alloc (.cells #[.string ⟨s2.toArray⟩, .string ⟨p2.toArray⟩, .int .i64 r2, .int .i64 f2, .bool o2, .slice ao_c no_c co_c, .slice ah_c nh_c ch_c, .slice ac_c nc_c cc_c] 28)
  replace X_o := X_o.alloc (.cells #[.string ⟨s2.toArray⟩, .string ⟨p2.toArray⟩, .int .i64 r2, .int .i64 f2, .bool o2, .slice ao_c no_c co_c, .slice ah_c nh_c ch_c, .slice ac_c nc_c cc_c] 28)
  replace X_a := X_a.alloc (.cells #[.string ⟨s2.toArray⟩, .string ⟨p2.toArray⟩, .int .i64 r2, .int .i64 f2, .bool o2, .slice ao_c no_c co_c, .slice ah_c nh_c ch_c, .slice ac_c nc_c cc_c] 28)
  replace X_b := X_b.alloc (.cells #[.string ⟨s2.toArray⟩, .string ⟨p2.toArray⟩, .int .i64 r2, .int .i64 f2, .bool o2, .slice ao_c no_c co_c, .slice ah_c nh_c ch_c, .slice ac_c nc_c cc_c] 28)
  replace I_a := I_a.below ((Below.refl _ _).alloc (Nat.le_refl _) (.cells #[.string ⟨s2.toArray⟩, .string ⟨p2.toArray⟩, .int .i64 r2, .int .i64 f2, .bool o2, .slice ao_c no_c co_c, .slice ah_c nh_c ch_c, .slice ac_c nc_c cc_c] 28))
  replace I_b := I_b.below ((Below.refl _ _).alloc (Nat.le_refl _) (.cells #[.string ⟨s2.toArray⟩, .string ⟨p2.toArray⟩, .int .i64 r2, .int .i64 f2, .bool o2, .slice ao_c no_c co_c, .slice ah_c nh_c ch_c, .slice ac_c nc_c cc_c] 28))
  replace I_c := I_c.below ((Below.refl _ _).alloc (Nat.le_refl _) (.cells #[.string ⟨s2.toArray⟩, .string ⟨p2.toArray⟩, .int .i64 r2, .int .i64 f2, .bool o2, .slice ao_c no_c co_c, .slice ah_c nh_c ch_c, .slice ac_c nc_c cc_c] 28))
  replace A_a := A_a.trans (Agr.below ((Below.refl _ _).alloc (Nat.le_refl _) (.cells #[.string ⟨s2.toArray⟩, .string ⟨p2.toArray⟩, .int .i64 r2, .int .i64 f2, .bool o2, .slice ao_c no_c co_c, .slice ah_c nh_c ch_c, .slice ac_c nc_c cc_c] 28)))
  replace A_b := A_b.trans (Agr.below ((Below.refl _ _).alloc (Nat.le_refl _) (.cells #[.string ⟨s2.toArray⟩, .string ⟨p2.toArray⟩, .int .i64 r2, .int .i64 f2, .bool o2, .slice ao_c no_c co_c, .slice ah_c nh_c ch_c, .slice ac_c nc_c cc_c] 28)))
  replace A_c := A_c.trans (Agr.below ((Below.refl _ _).alloc (Nat.le_refl _) (.cells #[.string ⟨s2.toArray⟩, .string ⟨p2.toArray⟩, .int .i64 r2, .int .i64 f2, .bool o2, .slice ao_c no_c co_c, .slice ah_c nh_c ch_c, .slice ac_c nc_c cc_c] 28)))
  have X_c := SBox.new w_40 28 #[.string ⟨s2.toArray⟩, .string ⟨p2.toArray⟩, .int .i64 r2, .int .i64 f2, .bool o2, .slice ao_c no_c co_c, .slice ah_c nh_c ch_c, .slice ac_c nc_c cc_c]
  have l_c := Lib.hid B10.size
  have B11 := B10.alloc B10.size (.cells #[.string ⟨s2.toArray⟩, .string ⟨p2.toArray⟩, .int .i64 r2, .int .i64 f2, .bool o2, .slice ao_c no_c co_c, .slice ah_c nh_c ch_c, .slice ac_c nc_c cc_c] 28)
  clear B10
  have c_s0_41 := X_s.cell 0 _ rfl
  have fc_s0_41 := X_s.frozen 0
  have c_s1_42 := X_s.cell 1 _ rfl
  have fc_s1_42 := X_s.frozen 1
  have c_s2_43 := X_s.cell 2 _ rfl
  have fc_s2_43 := X_s.frozen 2
  have c_s3_44 := X_s.cell 3 _ rfl
  have fc_s3_44 := X_s.frozen 3
  have c_s4_45 := X_s.cell 4 _ rfl
  have fc_s4_45 := X_s.frozen 4
  have c_s5_46 := X_s.cell 5 _ rfl
  have fc_s5_46 := X_s.frozen 5
  have c_s6_47 := X_s.cell 6 _ rfl
  have fc_s6_47 := X_s.frozen 6
  have c_s7_48 := X_s.cell 7 _ rfl
  have fc_s7_48 := X_s.frozen 7
  have c_x0_49 := X_x.cell 0 _ rfl
  have fc_x0_49 := X_x.frozen 0
  have c_x1_50 := X_x.cell 1 _ rfl
  have fc_x1_50 := X_x.frozen 1
  have c_x2_51 := X_x.cell 2 _ rfl
  have fc_x2_51 := X_x.frozen 2
  have c_x3_52 := X_x.cell 3 _ rfl
  have fc_x3_52 := X_x.frozen 3
  go_wp2_with fail
  refine (R2.out _ (HS.out.below B11)).mono ?_
  rintro e_ w_53 ⟨uo_d, uh_d, uc_d, rfl, b_53, G_d, hT⟩
  clear c_s0_41 fc_s0_41 c_s1_42 fc_s1_42 c_s2_43 fc_s2_43 c_s3_44 fc_s3_44 c_s4_45 fc_s4_45 c_s5_46 fc_s5_46 c_s6_47 fc_s6_47 c_s7_48 fc_s7_48 c_x0_49 fc_x0_49 c_x1_50 fc_x1_50 c_x2_51 fc_x2_51 c_x3_52 fc_x3_52
  replace X_s := X_s.below b_53
  replace X_x := X_x.below b_53
  replace X_o := X_o.below b_53
  replace X_a := X_a.below b_53
  replace X_b := X_b.below b_53
  replace X_c := X_c.below b_53
  replace I_a := I_a.below b_53
  replace I_b := I_b.below b_53
  replace I_c := I_c.below b_53
  replace A_a := A_a.trans (Agr.below b_53)
  replace A_b := A_b.trans (Agr.below b_53)
  replace A_c := A_c.trans (Agr.below b_53)
  have B12 := B11.trans (b_53.mono B11.size)
  clear B11
  clear b_53
  have A_d := agrOf hT
  have HT_d := Lib.hid hT
  clear hT
  have I_d := HT_d.out _ A_d (HS.out.below B12)
  obtain ⟨ao_d, no_d, co_d, ah_d, nh_d, ch_d, ac_d, nc_d, cc_d, rfl, rfl, rfl⟩ := I_d.slices
  replace X_s := X_s.alloc (.cells #[.string ⟨s2.toArray⟩, .string ⟨p2.toArray⟩, .int .i64 r2, .int .i64 f2, .bool o2, .slice ao_d no_d co_d, .slice ah_d nh_d ch_d, .slice ac_d nc_d cc_d] 28)
  replace X_x := X_x.alloc (.cells #[.string ⟨s2.toArray⟩, .string ⟨p2.toArray⟩, .int .i64 r2, .int .i64 f2, .bool o2, .slice ao_d no_d co_d, .slice ah_d nh_d ch_d, .slice ac_d nc_d cc_d] 28)
  replace X_o := X_o.alloc (.cells #[.string ⟨s2.toArray⟩, .string ⟨p2.toArray⟩, .int .i64 r2, .int .i64 f2, .bool o2, .slice ao_d no_d co_d, .slice ah_d nh_d ch_d, .slice ac_d nc_d cc_d] 28)
  replace X_a := X_a.alloc (.cells #[.string ⟨s2.toArray⟩, .string ⟨p2.toArray⟩, .int .i64 r2, .int .i64 f2, .bool o2, .slice ao_d no_d co_d, .slice ah_d nh_d ch_d, .slice ac_d nc_d cc_d] 28)
  replace X_b := X_b.alloc (.cells #[.string ⟨s2.toArray⟩, .string ⟨p2.toArray⟩, .int .i64 r2, .int .i64 f2, .bool o2, .slice ao_d no_d co_d, .slice ah_d nh_d ch_d, .slice ac_d nc_d cc_d] 28)
  replace X_c := X_c.alloc (.cells #[.string ⟨s2.toArray⟩, .string ⟨p2.toArray⟩, .int .i64 r2, .int .i64 f2, .bool o2, .slice ao_d no_d co_d, .slice ah_d nh_d ch_d, .slice ac_d nc_d cc_d] 28)
  replace I_a := I_a.below ((Below.refl _ _).alloc (Nat.le_refl _) (.cells #[.string ⟨s2.toArray⟩, .string ⟨p2.toArray⟩, .int .i64 r2, .int .i64 f2, .bool o2, .slice ao_d no_d co_d, .slice ah_d nh_d ch_d, .slice ac_d nc_d cc_d] 28))
  replace I_b := I_b.below ((Below.refl _ _).alloc (Nat.le_refl _) (.cells #[.string ⟨s2.toArray⟩, .string ⟨p2.toArray⟩, .int .i64 r2, .int .i64 f2, .bool o2, .slice ao_d no_d co_d, .slice ah_d nh_d ch_d, .slice ac_d nc_d cc_d] 28))
  replace I_c := I_c.below ((Below.refl _ _).alloc (Nat.le_refl _) (.cells #[.string ⟨s2.toArray⟩, .string ⟨p2.toArray⟩, .int .i64 r2, .int .i64 f2, .bool o2, .slice ao_d no_d co_d, .slice ah_d nh_d ch_d, .slice ac_d nc_d cc_d] 28))
  replace I_d := I_d.below ((Below.refl _ _).alloc (Nat.le_refl _) (.cells #[.string ⟨s2.toArray⟩, .string ⟨p2.toArray⟩, .int .i64 r2, .int .i64 f2, .bool o2, .slice ao_d no_d co_d, .slice ah_d nh_d ch_d, .slice ac_d nc_d cc_d] 28))
  replace A_a := A_a.trans (Agr.below ((Below.refl _ _).alloc (Nat.le_refl _) (.cells #[.string ⟨s2.toArray⟩, .string ⟨p2.toArray⟩, .int .i64 r2, .int .i64 f2, .bool o2, .slice ao_d no_d co_d, .slice ah_d nh_d ch_d, .slice ac_d nc_d cc_d] 28)))
  replace A_b := A_b.trans (Agr.below ((Below.refl _ _).alloc (Nat.le_refl _) (.cells #[.string ⟨s2.toArray⟩, .string ⟨p2.toArray⟩, .int .i64 r2, .int .i64 f2, .bool o2, .slice ao_d no_d co_d, .slice ah_d nh_d ch_d, .slice ac_d nc_d cc_d] 28)))
  replace A_c := A_c.trans (Agr.below ((Below.refl _ _).alloc (Nat.le_refl _) (.cells #[.string ⟨s2.toArray⟩, .string ⟨p2.toArray⟩, .int .i64 r2, .int .i64 f2, .bool o2, .slice ao_d no_d co_d, .slice ah_d nh_d ch_d, .slice ac_d nc_d cc_d] 28)))
  replace A_d := A_d.trans (Agr.below ((Below.refl _ _).alloc (Nat.le_refl _) (.cells #[.string ⟨s2.toArray⟩, .string ⟨p2.toArray⟩, .int .i64 r2, .int .i64 f2, .bool o2, .slice ao_d no_d co_d, .slice ah_d nh_d ch_d, .slice ac_d nc_d cc_d] 28)))
  have X_d := SBox.new w_53 28 #[.string ⟨s2.toArray⟩, .string ⟨p2.toArray⟩, .int .i64 r2, .int .i64 f2, .bool o2, .slice ao_d no_d co_d, .slice ah_d nh_d ch_d, .slice ac_d nc_d cc_d]
  have l_d := Lib.hid B12.size
  have B13 := B12.alloc B12.size (.cells #[.string ⟨s2.toArray⟩, .string ⟨p2.toArray⟩, .int .i64 r2, .int .i64 f2, .bool o2, .slice ao_d no_d co_d, .slice ah_d nh_d ch_d, .slice ac_d nc_d cc_d] 28)
  clear B12
  have c_s0_54 := X_s.cell 0 _ rfl
  have fc_s0_54 := X_s.frozen 0
  have c_s1_55 := X_s.cell 1 _ rfl
  have fc_s1_55 := X_s.frozen 1
  have c_s2_56 := X_s.cell 2 _ rfl
  have fc_s2_56 := X_s.frozen 2
  have c_s3_57 := X_s.cell 3 _ rfl
  have fc_s3_57 := X_s.frozen 3
  have c_s4_58 := X_s.cell 4 _ rfl
  have fc_s4_58 := X_s.frozen 4
  have c_s5_59 := X_s.cell 5 _ rfl
  have fc_s5_59 := X_s.frozen 5
  have c_s6_60 := X_s.cell 6 _ rfl
  have fc_s6_60 := X_s.frozen 6
  have c_s7_61 := X_s.cell 7 _ rfl
  have fc_s7_61 := X_s.frozen 7
  have c_x0_62 := X_x.cell 0 _ rfl
  have fc_x0_62 := X_x.frozen 0
  have c_x1_63 := X_x.cell 1 _ rfl
  have fc_x1_63 := X_x.frozen 1
  have c_x2_64 := X_x.cell 2 _ rfl
  have fc_x2_64 := X_x.frozen 2
  have c_x3_65 := X_x.cell 3 _ rfl
  have fc_x3_65 := X_x.frozen 3
  go_wp2_with fail
  refine (P3.out _ (HS.out.below B13)).mono ?_
  rintro e_ w_66 ⟨uo_k, uh_k, uc_k, rfl, b_66, G_k, hT⟩
  clear c_s0_54 fc_s0_54 c_s1_55 fc_s1_55 c_s2_56 fc_s2_56 c_s3_57 fc_s3_57 c_s4_58 fc_s4_58 c_s5_59 fc_s5_59 c_s6_60 fc_s6_60 c_s7_61 fc_s7_61 c_x0_62 fc_x0_62 c_x1_63 fc_x1_63 c_x2_64 fc_x2_64 c_x3_65 fc_x3_65
  replace X_s := X_s.below b_66
  replace X_x := X_x.below b_66
  replace X_o := X_o.below b_66
  replace X_a := X_a.below b_66
  replace X_b := X_b.below b_66
  replace X_c := X_c.below b_66
  replace X_d := X_d.below b_66
  replace I_a := I_a.below b_66
  replace I_b := I_b.below b_66
  replace I_c := I_c.below b_66
  replace I_d := I_d.below b_66
  replace A_a := A_a.trans (Agr.below b_66)
  replace A_b := A_b.trans (Agr.below b_66)
  replace A_c := A_c.trans (Agr.below b_66)
  replace A_d := A_d.trans (Agr.below b_66)
  have B14 := B13.trans (b_66.mono B13.size)
  clear B13
  clear b_66
  have A_k := agrOf hT
  have HT_k := Lib.hid hT
  clear hT
  have I_k := HT_k.out _ A_k (HS.out.below B14)
  obtain ⟨ao_k, no_k, co_k, ah_k, nh_k, ch_k, ac_k, nc_k, cc_k, rfl, rfl, rfl⟩ := I_k.slices
  replace X_s := X_s.alloc (.cells #[.string ⟨s3.toArray⟩, .string ⟨p3.toArray⟩, .int .i64 r3, .int .i64 f3, .bool o3, .slice ao_k no_k co_k, .slice ah_k nh_k ch_k, .slice ac_k nc_k cc_k] 28)
  replace X_x := X_x.alloc (.cells #[.string ⟨s3.toArray⟩, .string ⟨p3.toArray⟩, .int .i64 r3, .int .i64 f3, .bool o3, .slice ao_k no_k co_k, .slice ah_k nh_k ch_k, .slice ac_k nc_k cc_k] 28)
  replace X_o := X_o.alloc (.cells #[.string ⟨s3.toArray⟩, .string ⟨p3.toArray⟩, .int .i64 r3, .int .i64 f3, .bool o3, .slice ao_k no_k co_k, .slice ah_k nh_k ch_k, .slice ac_k nc_k cc_k] 28)
  replace X_a := X_a.alloc (.cells #[.string ⟨s3.toArray⟩, .string ⟨p3.toArray⟩, .int .i64 r3, .int .i64 f3, .bool o3, .slice ao_k no_k co_k, .slice ah_k nh_k ch_k, .slice ac_k nc_k cc_k] 28)
  replace X_b := X_b.alloc (.cells #[.string ⟨s3.toArray⟩, .string ⟨p3.toArray⟩, .int .i64 r3, .int .i64 f3, .bool o3, .slice ao_k no_k co_k, .slice ah_k nh_k ch_k, .slice ac_k nc_k cc_k] 28)
  replace X_c := X_c.alloc (.cells #[.string ⟨s3.toArray⟩, .string ⟨p3.toArray⟩, .int .i64 r3, .int .i64 f3, .bool o3, .slice ao_k no_k co_k, .slice ah_k nh_k ch_k, .slice ac_k nc_k cc_k] 28)
  replace X_d := X_d.alloc (.cells #[.string ⟨s3.toArray⟩, .string ⟨p3.toArray⟩, .int .i64 r3, .int .i64 f3, .bool o3, .slice ao_k no_k co_k, .slice ah_k nh_k ch_k, .slice ac_k nc_k cc_k] 28)
  replace I_a := I_a.below ((Below.refl _ _).alloc (Nat.le_refl _) (.cells #[.string ⟨s3.toArray⟩, .string ⟨p3.toArray⟩, .int .i64 r3, .int .i64 f3, .bool o3, .slice ao_k no_k co_k, .slice ah_k nh_k ch_k, .slice ac_k nc_k cc_k] 28))
  replace I_b := I_b.below ((Below.refl _ _).alloc (Nat.le_refl _) (.cells #[.string ⟨s3.toArray⟩, .string ⟨p3.toArray⟩, .int .i64 r3, .int .i64 f3, .bool o3, .slice ao_k no_k co_k, .slice ah_k nh_k ch_k, .slice ac_k nc_k cc_k] 28))
  replace I_c := I_c.below ((Below.refl _ _).alloc (Nat.le_refl _) (.cells #[.string ⟨s3.toArray⟩, .string ⟨p3.toArray⟩, .int .i64 r3, .int .i64 f3, .bool o3, .slice ao_k no_k co_k, .slice ah_k nh_k ch_k, .slice ac_k nc_k cc_k] 28))
  replace I_d := I_d.below ((Below.refl _ _).alloc (Nat.le_refl _) (.cells #[.string ⟨s3.toArray⟩, .string ⟨p3.toArray⟩, .int .i64 r3, .int .i64 f3, .bool o3, .slice ao_k no_k co_k, .slice ah_k nh_k ch_k, .slice ac_k nc_k cc_k] 28))
  replace I_k := I_k.below ((Below.refl _ _).alloc (Nat.le_refl _) (.cells #[.string ⟨s3.toArray⟩, .string ⟨p3.toArray⟩, .int .i64 r3, .int .i64 f3, .bool o3, .slice ao_k no_k co_k, .slice ah_k nh_k ch_k, .slice ac_k nc_k cc_k] 28))
  replace A_a := A_a.trans (Agr.below ((Below.refl _ _).alloc (Nat.le_refl _) (.cells #[.string ⟨s3.toArray⟩, .string ⟨p3.toArray⟩, .int .i64 r3, .int .i64 f3, .bool o3, .slice ao_k no_k co_k, .slice ah_k nh_k ch_k, .slice ac_k nc_k cc_k] 28)))
  replace A_b := A_b.trans (Agr.below ((Below.refl _ _).alloc (Nat.le_refl _) (.cells #[.string ⟨s3.toArray⟩, .string ⟨p3.toArray⟩, .int .i64 r3, .int .i64 f3, .bool o3, .slice ao_k no_k co_k, .slice ah_k nh_k ch_k, .slice ac_k nc_k cc_k] 28)))
  replace A_c := A_c.trans (Agr.below ((Below.refl _ _).alloc (Nat.le_refl _) (.cells #[.string ⟨s3.toArray⟩, .string ⟨p3.toArray⟩, .int .i64 r3, .int .i64 f3, .bool o3, .slice ao_k no_k co_k, .slice ah_k nh_k ch_k, .slice ac_k nc_k cc_k] 28)))
  replace A_d := A_d.trans (Agr.below ((Below.refl _ _).alloc (Nat.le_refl _) (.cells #[.string ⟨s3.toArray⟩, .string ⟨p3.toArray⟩, .int .i64 r3, .int .i64 f3, .bool o3, .slice ao_k no_k co_k, .slice ah_k nh_k ch_k, .slice ac_k nc_k cc_k] 28)))
  replace A_k := A_k.trans (Agr.below ((Below.refl _ _).alloc (Nat.le_refl _) (.cells #[.string ⟨s3.toArray⟩, .string ⟨p3.toArray⟩, .int .i64 r3, .int .i64 f3, .bool o3, .slice ao_k no_k co_k, .slice ah_k nh_k ch_k, .slice ac_k nc_k cc_k] 28)))
  have X_k := SBox.new w_66 28 #[.string ⟨s3.toArray⟩, .string ⟨p3.toArray⟩, .int .i64 r3, .int .i64 f3, .bool o3, .slice ao_k no_k co_k, .slice ah_k nh_k ch_k, .slice ac_k nc_k cc_k]
  have l_k := Lib.hid B14.size
  have B15 := B14.alloc B14.size (.cells #[.string ⟨s3.toArray⟩, .string ⟨p3.toArray⟩, .int .i64 r3, .int .i64 f3, .bool o3, .slice ao_k no_k co_k, .slice ah_k nh_k ch_k, .slice ac_k nc_k cc_k] 28)
  clear B14
  have c_s0_67 := X_s.cell 0 _ rfl
  have fc_s0_67 := X_s.frozen 0
  have c_s1_68 := X_s.cell 1 _ rfl
  have fc_s1_68 := X_s.frozen 1
  have c_s2_69 := X_s.cell 2 _ rfl
  have fc_s2_69 := X_s.frozen 2
  have c_s3_70 := X_s.cell 3 _ rfl
  have fc_s3_70 := X_s.frozen 3
  have c_s4_71 := X_s.cell 4 _ rfl
  have fc_s4_71 := X_s.frozen 4
  have c_s5_72 := X_s.cell 5 _ rfl
  have fc_s5_72 := X_s.frozen 5
  have c_s6_73 := X_s.cell 6 _ rfl
  have fc_s6_73 := X_s.frozen 6
  have c_s7_74 := X_s.cell 7 _ rfl
  have fc_s7_74 := X_s.frozen 7
  have c_x0_75 := X_x.cell 0 _ rfl
  have fc_x0_75 := X_x.frozen 0
  have c_x1_76 := X_x.cell 1 _ rfl
  have fc_x1_76 := X_x.frozen 1
  have c_x2_77 := X_x.cell 2 _ rfl
  have fc_x2_77 := X_x.frozen 2
  have c_x3_78 := X_x.cell 3 _ rfl
  have fc_x3_78 := X_x.frozen 3
  go_wp2_with fail
  refine (R3.out _ (HS.out.below B15)).mono ?_
  rintro e_ w_79 ⟨uo_l, uh_l, uc_l, rfl, b_79, G_l, hT⟩
  clear c_s0_67 fc_s0_67 c_s1_68 fc_s1_68 c_s2_69 fc_s2_69 c_s3_70 fc_s3_70 c_s4_71 fc_s4_71 c_s5_72 fc_s5_72 c_s6_73 fc_s6_73 c_s7_74 fc_s7_74 c_x0_75 fc_x0_75 c_x1_76 fc_x1_76 c_x2_77 fc_x2_77 c_x3_78 fc_x3_78
  replace X_s := X_s.below b_79
  replace X_x := X_x.below b_79
  replace X_o := X_o.below b_79
  replace X_a := X_a.below b_79
  replace X_b := X_b.below b_79
  replace X_c := X_c.below b_79
  replace X_d := X_d.below b_79
  replace X_k := X_k.below b_79
  replace I_a := I_a.below b_79
  replace I_b := I_b.below b_79
  replace I_c := I_c.below b_79
  replace I_d := I_d.below b_79
  replace I_k := I_k.below b_79
  replace A_a := A_a.trans (Agr.below b_79)
  replace A_b := A_b.trans (Agr.below b_79)
  replace A_c := A_c.trans (Agr.below b_79)
  replace A_d := A_d.trans (Agr.below b_79)
  replace A_k := A_k.trans (Agr.below b_79)
  have B16 := B15.trans (b_79.mono B15.size)
  clear B15
  clear b_79
  have A_l := agrOf hT
  have HT_l := Lib.hid hT
  clear hT
  have I_l := HT_l.out _ A_l (HS.out.below B16)
  obtain ⟨ao_l, no_l, co_l, ah_l, nh_l, ch_l, ac_l, nc_l, cc_l, rfl, rfl, rfl⟩ := I_l.slices
  replace X_s := X_s.alloc (.cells #[.string ⟨s3.toArray⟩, .string ⟨p3.toArray⟩, .int .i64 r3, .int .i64 f3, .bool o3, .slice ao_l no_l co_l, .slice ah_l nh_l ch_l, .slice ac_l nc_l cc_l] 28)
  replace X_x := X_x.alloc (.cells #[.string ⟨s3.toArray⟩, .string ⟨p3.toArray⟩, .int .i64 r3, .int .i64 f3, .bool o3, .slice ao_l no_l co_l, .slice ah_l nh_l ch_l, .slice ac_l nc_l cc_l] 28)
  replace X_o := X_o.alloc (.cells #[.string ⟨s3.toArray⟩, .string ⟨p3.toArray⟩, .int .i64 r3, .int .i64 f3, .bool o3, .slice ao_l no_l co_l, .slice ah_l nh_l ch_l, .slice ac_l nc_l cc_l] 28)
  replace X_a := X_a.alloc (.cells #[.string ⟨s3.toArray⟩, .string ⟨p3.toArray⟩, .int .i64 r3, .int .i64 f3, .bool o3, .slice ao_l no_l co_l, .slice ah_l nh_l ch_l, .slice ac_l nc_l cc_l] 28)
  replace X_b := X_b.alloc (.cells #[.string ⟨s3.toArray⟩, .string ⟨p3.toArray⟩, .int .i64 r3, .int .i64 f3, .bool o3, .slice ao_l no_l co_l, .slice ah_l nh_l ch_l, .slice ac_l nc_l cc_l] 28)
  replace X_c := X_c.alloc (.cells #[.string ⟨s3.toArray⟩, .string ⟨p3.toArray⟩, .int .i64 r3, .int .i64 f3, .bool o3, .slice ao_l no_l co_l, .slice ah_l nh_l ch_l, .slice ac_l nc_l cc_l] 28)
  replace X_d := X_d.alloc (.cells #[.string ⟨s3.toArray⟩, .string ⟨p3.toArray⟩, .int .i64 r3, .int .i64 f3, .bool o3, .slice ao_l no_l co_l, .slice ah_l nh_l ch_l, .slice ac_l nc_l cc_l] 28)
  replace X_k := X_k.alloc (.cells #[.string ⟨s3.toArray⟩, .string ⟨p3.toArray⟩, .int .i64 r3, .int .i64 f3, .bool o3, .slice ao_l no_l co_l, .slice ah_l nh_l ch_l, .slice ac_l nc_l cc_l] 28)
  replace I_a := I_a.below ((Below.refl _ _).alloc (Nat.le_refl _) (.cells #[.string ⟨s3.toArray⟩, .string ⟨p3.toArray⟩, .int .i64 r3, .int .i64 f3, .bool o3, .slice ao_l no_l co_l, .slice ah_l nh_l ch_l, .slice ac_l nc_l cc_l] 28))
  replace I_b := I_b.below ((Below.refl _ _).alloc (Nat.le_refl _) (.cells #[.string ⟨s3.toArray⟩, .string ⟨p3.toArray⟩, .int .i64 r3, .int .i64 f3, .bool o3, .slice ao_l no_l co_l, .slice ah_l nh_l ch_l, .slice ac_l nc_l cc_l] 28))
  replace I_c := I_c.below ((Below.refl _ _).alloc (Nat.le_refl _) (.cells #[.string ⟨s3.toArray⟩, .string ⟨p3.toArray⟩, .int .i64 r3, .int .i64 f3, .bool o3, .slice ao_l no_l co_l, .slice ah_l nh_l ch_l, .slice ac_l nc_l cc_l] 28))
  replace I_d := I_d.below ((Below.refl _ _).alloc (Nat.le_refl _) (.cells #[.string ⟨s3.toArray⟩, .string ⟨p3.toArray⟩, .int .i64 r3, .int .i64 f3, .bool o3, .slice ao_l no_l co_l, .slice ah_l nh_l ch_l, .slice ac_l nc_l cc_l] 28))
  replace I_k := I_k.below ((Below.refl _ _).alloc (Nat.le_refl _) (.cells #[.string ⟨s3.toArray⟩, .string ⟨p3.toArray⟩, .int .i64 r3, .int .i64 f3, .bool o3, .slice ao_l no_l co_l, .slice ah_l nh_l ch_l, .slice ac_l nc_l cc_l] 28))
  replace I_l := I_l.below ((Below.refl _ _).alloc (Nat.le_refl _) (.cells #[.string ⟨s3.toArray⟩, .string ⟨p3.toArray⟩, .int .i64 r3, .int .i64 f3, .bool o3, .slice ao_l no_l co_l, .slice ah_l nh_l ch_l, .slice ac_l nc_l cc_l] 28))
  replace A_a := A_a.trans (Agr.below ((Below.refl _ _).alloc (Nat.le_refl _) (.cells #[.string ⟨s3.toArray⟩, .string ⟨p3.toArray⟩, .int .i64 r3, .int .i64 f3, .bool o3, .slice ao_l no_l co_l, .slice ah_l nh_l ch_l, .slice ac_l nc_l cc_l] 28)))
  replace A_b := A_b.trans (Agr.below ((Below.refl _ _).alloc (Nat.le_refl _) (.cells #[.string ⟨s3.toArray⟩, .string ⟨p3.toArray⟩, .int .i64 r3, .int .i64 f3, .bool o3, .slice ao_l no_l co_l, .slice ah_l nh_l ch_l, .slice ac_l nc_l cc_l] 28)))
  replace A_c := A_c.trans (Agr.below ((Below.refl _ _).alloc (Nat.le_refl _) (.cells #[.string ⟨s3.toArray⟩, .string ⟨p3.toArray⟩, .int .i64 r3, .int .i64 f3, .bool o3, .slice ao_l no_l co_l, .slice ah_l nh_l ch_l, .slice ac_l nc_l cc_l] 28)))
  replace A_d := A_d.trans (Agr.below ((Below.refl _ _).alloc (Nat.le_refl _) (.cells #[.string ⟨s3.toArray⟩, .string ⟨p3.toArray⟩, .int .i64 r3, .int .i64 f3, .bool o3, .slice ao_l no_l co_l, .slice ah_l nh_l ch_l, .slice ac_l nc_l cc_l] 28)))
  replace A_k := A_k.trans (Agr.below ((Below.refl _ _).alloc (Nat.le_refl _) (.cells #[.string ⟨s3.toArray⟩, .string ⟨p3.toArray⟩, .int .i64 r3, .int .i64 f3, .bool o3, .slice ao_l no_l co_l, .slice ah_l nh_l ch_l, .slice ac_l nc_l cc_l] 28)))
  replace A_l := A_l.trans (Agr.below ((Below.refl _ _).alloc (Nat.le_refl _) (.cells #[.string ⟨s3.toArray⟩, .string ⟨p3.toArray⟩, .int .i64 r3, .int .i64 f3, .bool o3, .slice ao_l no_l co_l, .slice ah_l nh_l ch_l, .slice ac_l nc_l cc_l] 28)))
  have X_l := SBox.new w_79 28 #[.string ⟨s3.toArray⟩, .string ⟨p3.toArray⟩, .int .i64 r3, .int .i64 f3, .bool o3, .slice ao_l no_l co_l, .slice ah_l nh_l ch_l, .slice ac_l nc_l cc_l]
  have l_l := Lib.hid B16.size
  have B17 := B16.alloc B16.size (.cells #[.string ⟨s3.toArray⟩, .string ⟨p3.toArray⟩, .int .i64 r3, .int .i64 f3, .bool o3, .slice ao_l no_l co_l, .slice ah_l nh_l ch_l, .slice ac_l nc_l cc_l] 28)
  clear B16
  have c_s0_80 := X_s.cell 0 _ rfl
  have fc_s0_80 := X_s.frozen 0
  have c_s1_81 := X_s.cell 1 _ rfl
  have fc_s1_81 := X_s.frozen 1
  have c_s2_82 := X_s.cell 2 _ rfl
  have fc_s2_82 := X_s.frozen 2
  have c_s3_83 := X_s.cell 3 _ rfl
  have fc_s3_83 := X_s.frozen 3
  have c_s4_84 := X_s.cell 4 _ rfl
  have fc_s4_84 := X_s.frozen 4
  have c_s5_85 := X_s.cell 5 _ rfl
  have fc_s5_85 := X_s.frozen 5
  have c_s6_86 := X_s.cell 6 _ rfl
  have fc_s6_86 := X_s.frozen 6
  have c_s7_87 := X_s.cell 7 _ rfl
  have fc_s7_87 := X_s.frozen 7
  have c_x0_88 := X_x.cell 0 _ rfl
  have fc_x0_88 := X_x.frozen 0
  have c_x1_89 := X_x.cell 1 _ rfl
  have fc_x1_89 := X_x.frozen 1
  have c_x2_90 := X_x.cell 2 _ rfl
  have fc_x2_90 := X_x.frozen 2
  have c_x3_91 := X_x.cell 3 _ rfl
  have fc_x3_91 := X_x.frozen 3
  go_wp2_with fail
  refine (P4.out _ (HS.out.below B17)).mono ?_
  rintro e_ w_92 ⟨uo_p, uh_p, uc_p, rfl, b_92, G_p, hT⟩
  clear c_s0_80 fc_s0_80 c_s1_81 fc_s1_81 c_s2_82 fc_s2_82 c_s3_83 fc_s3_83 c_s4_84 fc_s4_84 c_s5_85 fc_s5_85 c_s6_86 fc_s6_86 c_s7_87 fc_s7_87 c_x0_88 fc_x0_88 c_x1_89 fc_x1_89 c_x2_90 fc_x2_90 c_x3_91 fc_x3_91
  replace X_s := X_s.below b_92
  replace X_x := X_x.below b_92
  replace X_o := X_o.below b_92
  replace X_a := X_a.below b_92
  replace X_b := X_b.below b_92
  replace X_c := X_c.below b_92
  replace X_d := X_d.below b_92
  replace X_k := X_k.below b_92
  replace X_l := X_l.below b_92
  replace I_a := I_a.below b_92
  replace I_b := I_b.below b_92
  replace I_c := I_c.below b_92
  replace I_d := I_d.below b_92
  replace I_k := I_k.below b_92
  replace I_l := I_l.below b_92
  replace A_a := A_a.trans (Agr.below b_92)
  replace A_b := A_b.trans (Agr.below b_92)
  replace A_c := A_c.trans (Agr.below b_92)
  replace A_d := A_d.trans (Agr.below b_92)
  replace A_k := A_k.trans (Agr.below b_92)
  replace A_l := A_l.trans (Agr.below b_92)
  have B18 := B17.trans (b_92.mono B17.size)
  clear B17
  clear b_92
  have A_p := agrOf hT
  have HT_p := Lib.hid hT
  clear hT
  have I_p := HT_p.out _ A_p (StIn.zero _)
  obtain ⟨ao_p, no_p, co_p, ah_p, nh_p, ch_p, ac_p, nc_p, cc_p, rfl, rfl, rfl⟩ := I_p.slices
  replace X_s := X_s.alloc (.cells #[.string ⟨s4.toArray⟩, .string ⟨p4.toArray⟩, .int .i64 r4, .int .i64 f4, .bool o4, .slice ao_p no_p co_p, .slice ah_p nh_p ch_p, .slice ac_p nc_p cc_p] 28)
  replace X_x := X_x.alloc (.cells #[.string ⟨s4.toArray⟩, .string ⟨p4.toArray⟩, .int .i64 r4, .int .i64 f4, .bool o4, .slice ao_p no_p co_p, .slice ah_p nh_p ch_p, .slice ac_p nc_p cc_p] 28)
  replace X_o := X_o.alloc (.cells #[.string ⟨s4.toArray⟩, .string ⟨p4.toArray⟩, .int .i64 r4, .int .i64 f4, .bool o4, .slice ao_p no_p co_p, .slice ah_p nh_p ch_p, .slice ac_p nc_p cc_p] 28)
  replace X_a := X_a.alloc (.cells #[.string ⟨s4.toArray⟩, .string ⟨p4.toArray⟩, .int .i64 r4, .int .i64 f4, .bool o4, .slice ao_p no_p co_p, .slice ah_p nh_p ch_p, .slice ac_p nc_p cc_p] 28)
  replace X_b := X_b.alloc (.cells #[.string ⟨s4.toArray⟩, .string ⟨p4.toArray⟩, .int .i64 r4, .int .i64 f4, .bool o4, .slice ao_p no_p co_p, .slice ah_p nh_p ch_p, .slice ac_p nc_p cc_p] 28)
  replace X_c := X_c.alloc (.cells #[.string ⟨s4.toArray⟩, .string ⟨p4.toArray⟩, .int .i64 r4, .int .i64 f4, .bool o4, .slice ao_p no_p co_p, .slice ah_p nh_p ch_p, .slice ac_p nc_p cc_p] 28)
  replace X_d := X_d.alloc (.cells #[.string ⟨s4.toArray⟩, .string ⟨p4.toArray⟩, .int .i64 r4, .int .i64 f4, .bool o4, .slice ao_p no_p co_p, .slice ah_p nh_p ch_p, .slice ac_p nc_p cc_p] 28)
  replace X_k := X_k.alloc (.cells #[.string ⟨s4.toArray⟩, .string ⟨p4.toArray⟩, .int .i64 r4, .int .i64 f4, .bool o4, .slice ao_p no_p co_p, .slice ah_p nh_p ch_p, .slice ac_p nc_p cc_p] 28)
  replace X_l := X_l.alloc (.cells #[.string ⟨s4.toArray⟩, .string ⟨p4.toArray⟩, .int .i64 r4, .int .i64 f4, .bool o4, .slice ao_p no_p co_p, .slice ah_p nh_p ch_p, .slice ac_p nc_p cc_p] 28)
  replace I_a := I_a.below ((Below.refl _ _).alloc (Nat.le_refl _) (.cells #[.string ⟨s4.toArray⟩, .string ⟨p4.toArray⟩, .int .i64 r4, .int .i64 f4, .bool o4, .slice ao_p no_p co_p, .slice ah_p nh_p ch_p, .slice ac_p nc_p cc_p] 28))
  replace I_b := I_b.below ((Below.refl _ _).alloc (Nat.le_refl _) (.cells #[.string ⟨s4.toArray⟩, .string ⟨p4.toArray⟩, .int .i64 r4, .int .i64 f4, .bool o4, .slice ao_p no_p co_p, .slice ah_p nh_p ch_p, .slice ac_p nc_p cc_p] 28))
  replace I_c := I_c.below ((Below.refl _ _).alloc (Nat.le_refl _) (.cells #[.string ⟨s4.toArray⟩, .string ⟨p4.toArray⟩, .int .i64 r4, .int .i64 f4, .bool o4, .slice ao_p no_p co_p, .slice ah_p nh_p ch_p, .slice ac_p nc_p cc_p] 28))
  replace I_d := I_d.below ((Below.refl _ _).alloc (Nat.le_refl _) (.cells #[.string ⟨s4.toArray⟩, .string ⟨p4.toArray⟩, .int .i64 r4, .int .i64 f4, .bool o4, .slice ao_p no_p co_p, .slice ah_p nh_p ch_p, .slice ac_p nc_p cc_p] 28))
  replace I_k := I_k.below ((Below.refl _ _).alloc (Nat.le_refl _) (.cells #[.string ⟨s4.toArray⟩, .string ⟨p4.toArray⟩, .int .i64 r4, .int .i64 f4, .bool o4, .slice ao_p no_p co_p, .slice ah_p nh_p ch_p, .slice ac_p nc_p cc_p] 28))
  replace I_l := I_l.below ((Below.refl _ _).alloc (Nat.le_refl _) (.cells #[.string ⟨s4.toArray⟩, .string ⟨p4.toArray⟩, .int .i64 r4, .int .i64 f4, .bool o4, .slice ao_p no_p co_p, .slice ah_p nh_p ch_p, .slice ac_p nc_p cc_p] 28))
  replace I_p := I_p.below ((Below.refl _ _).alloc (Nat.le_refl _) (.cells #[.string ⟨s4.toArray⟩, .string ⟨p4.toArray⟩, .int .i64 r4, .int .i64 f4, .bool o4, .slice ao_p no_p co_p, .slice ah_p nh_p ch_p, .slice ac_p nc_p cc_p] 28))
  replace A_a := A_a.trans (Agr.below ((Below.refl _ _).alloc (Nat.le_refl _) (.cells #[.string ⟨s4.toArray⟩, .string ⟨p4.toArray⟩, .int .i64 r4, .int .i64 f4, .bool o4, .slice ao_p no_p co_p, .slice ah_p nh_p ch_p, .slice ac_p nc_p cc_p] 28)))
  replace A_b := A_b.trans (Agr.below ((Below.refl _ _).alloc (Nat.le_refl _) (.cells #[.string ⟨s4.toArray⟩, .string ⟨p4.toArray⟩, .int .i64 r4, .int .i64 f4, .bool o4, .slice ao_p no_p co_p, .slice ah_p nh_p ch_p, .slice ac_p nc_p cc_p] 28)))
  replace A_c := A_c.trans (Agr.below ((Below.refl _ _).alloc (Nat.le_refl _) (.cells #[.string ⟨s4.toArray⟩, .string ⟨p4.toArray⟩, .int .i64 r4, .int .i64 f4, .bool o4, .slice ao_p no_p co_p, .slice ah_p nh_p ch_p, .slice ac_p nc_p cc_p] 28)))
  replace A_d := A_d.trans (Agr.below ((Below.refl _ _).alloc (Nat.le_refl _) (.cells #[.string ⟨s4.toArray⟩, .string ⟨p4.toArray⟩, .int .i64 r4, .int .i64 f4, .bool o4, .slice ao_p no_p co_p, .slice ah_p nh_p ch_p, .slice ac_p nc_p cc_p] 28)))
  replace A_k := A_k.trans (Agr.below ((Below.refl _ _).alloc (Nat.le_refl _) (.cells #[.string ⟨s4.toArray⟩, .string ⟨p4.toArray⟩, .int .i64 r4, .int .i64 f4, .bool o4, .slice ao_p no_p co_p, .slice ah_p nh_p ch_p, .slice ac_p nc_p cc_p] 28)))
  replace A_l := A_l.trans (Agr.below ((Below.refl _ _).alloc (Nat.le_refl _) (.cells #[.string ⟨s4.toArray⟩, .string ⟨p4.toArray⟩, .int .i64 r4, .int .i64 f4, .bool o4, .slice ao_p no_p co_p, .slice ah_p nh_p ch_p, .slice ac_p nc_p cc_p] 28)))
  replace A_p := A_p.trans (Agr.below ((Below.refl _ _).alloc (Nat.le_refl _) (.cells #[.string ⟨s4.toArray⟩, .string ⟨p4.toArray⟩, .int .i64 r4, .int .i64 f4, .bool o4, .slice ao_p no_p co_p, .slice ah_p nh_p ch_p, .slice ac_p nc_p cc_p] 28)))
  have X_p := SBox.new w_92 28 #[.string ⟨s4.toArray⟩, .string ⟨p4.toArray⟩, .int .i64 r4, .int .i64 f4, .bool o4, .slice ao_p no_p co_p, .slice ah_p nh_p ch_p, .slice ac_p nc_p cc_p]
  have l_p := Lib.hid B18.size
  have B19 := B18.alloc B18.size (.cells #[.string ⟨s4.toArray⟩, .string ⟨p4.toArray⟩, .int .i64 r4, .int .i64 f4, .bool o4, .slice ao_p no_p co_p, .slice ah_p nh_p ch_p, .slice ac_p nc_p cc_p] 28)
  clear B18
  have c_s0_93 := X_s.cell 0 _ rfl
  have fc_s0_93 := X_s.frozen 0
  have c_s1_94 := X_s.cell 1 _ rfl
  have fc_s1_94 := X_s.frozen 1
  have c_s2_95 := X_s.cell 2 _ rfl
  have fc_s2_95 := X_s.frozen 2
  have c_s3_96 := X_s.cell 3 _ rfl
  have fc_s3_96 := X_s.frozen 3
  have c_s4_97 := X_s.cell 4 _ rfl
  have fc_s4_97 := X_s.frozen 4
  have c_s5_98 := X_s.cell 5 _ rfl
  have fc_s5_98 := X_s.frozen 5
  have c_s6_99 := X_s.cell 6 _ rfl
  have fc_s6_99 := X_s.frozen 6
  have c_s7_100 := X_s.cell 7 _ rfl
  have fc_s7_100 := X_s.frozen 7
  have c_x0_101 := X_x.cell 0 _ rfl
  have fc_x0_101 := X_x.frozen 0
  have c_x1_102 := X_x.cell 1 _ rfl
  have fc_x1_102 := X_x.frozen 1
  have c_x2_103 := X_x.cell 2 _ rfl
  have fc_x2_103 := X_x.frozen 2
  have c_x3_104 := X_x.cell 3 _ rfl
  have fc_x3_104 := X_x.frozen 3
  go_wp2_with fail
  refine (R4.out _ (HS.out.below B19)).mono ?_
  rintro e_ w_105 ⟨uo_q, uh_q, uc_q, rfl, b_105, G_q, hT⟩
  clear c_s0_93 fc_s0_93 c_s1_94 fc_s1_94 c_s2_95 fc_s2_95 c_s3_96 fc_s3_96 c_s4_97 fc_s4_97 c_s5_98 fc_s5_98 c_s6_99 fc_s6_99 c_s7_100 fc_s7_100 c_x0_101 fc_x0_101 c_x1_102 fc_x1_102 c_x2_103 fc_x2_103 c_x3_104 fc_x3_104
  replace X_s := X_s.below b_105
  replace X_x := X_x.below b_105
  replace X_o := X_o.below b_105
  replace X_a := X_a.below b_105
  replace X_b := X_b.below b_105
  replace X_c := X_c.below b_105
  replace X_d := X_d.below b_105
  replace X_k := X_k.below b_105
  replace X_l := X_l.below b_105
  replace X_p := X_p.below b_105
  replace I_a := I_a.below b_105
  replace I_b := I_b.below b_105
  replace I_c := I_c.below b_105
  replace I_d := I_d.below b_105
  replace I_k := I_k.below b_105
  replace I_l := I_l.below b_105
  replace I_p := I_p.below b_105
  replace A_a := A_a.trans (Agr.below b_105)
  replace A_b := A_b.trans (Agr.below b_105)
  replace A_c := A_c.trans (Agr.below b_105)
  replace A_d := A_d.trans (Agr.below b_105)
  replace A_k := A_k.trans (Agr.below b_105)
  replace A_l := A_l.trans (Agr.below b_105)
  replace A_p := A_p.trans (Agr.below b_105)
  have B20 := B19.trans (b_105.mono B19.size)
  clear B19
  clear b_105
  have A_q := agrOf hT
  have HT_q := Lib.hid hT
  clear hT
  have I_q := HT_q.out _ A_q (StIn.zero _)
  obtain ⟨ao_q, no_q, co_q, ah_q, nh_q, ch_q, ac_q, nc_q, cc_q, rfl, rfl, rfl⟩ := I_q.slices
  replace X_s := X_s.alloc (.cells #[.string ⟨s4.toArray⟩, .string ⟨p4.toArray⟩, .int .i64 r4, .int .i64 f4, .bool o4, .slice ao_q no_q co_q, .slice ah_q nh_q ch_q, .slice ac_q nc_q cc_q] 28)
  replace X_x := X_x.alloc (.cells #[.string ⟨s4.toArray⟩, .string ⟨p4.toArray⟩, .int .i64 r4, .int .i64 f4, .bool o4, .slice ao_q no_q co_q, .slice ah_q nh_q ch_q, .slice ac_q nc_q cc_q] 28)
  replace X_o := X_o.alloc (.cells #[.string ⟨s4.toArray⟩, .string ⟨p4.toArray⟩, .int .i64 r4, .int .i64 f4, .bool o4, .slice ao_q no_q co_q, .slice ah_q nh_q ch_q, .slice ac_q nc_q cc_q] 28)
  replace X_a := X_a.alloc (.cells #[.string ⟨s4.toArray⟩, .string ⟨p4.toArray⟩, .int .i64 r4, .int .i64 f4, .bool o4, .slice ao_q no_q co_q, .slice ah_q nh_q ch_q, .slice ac_q nc_q cc_q] 28)
  replace X_b := X_b.alloc (.cells #[.string ⟨s4.toArray⟩, .string ⟨p4.toArray⟩, .int .i64 r4, .int .i64 f4, .bool o4, .slice ao_q no_q co_q, .slice ah_q nh_q ch_q, .slice ac_q nc_q cc_q] 28)
  replace X_c := X_c.alloc (.cells #[.string ⟨s4.toArray⟩, .string ⟨p4.toArray⟩, .int .i64 r4, .int .i64 f4, .bool o4, .slice ao_q no_q co_q, .slice ah_q nh_q ch_q, .slice ac_q nc_q cc_q] 28)
  replace X_d := X_d.alloc (.cells #[.string ⟨s4.toArray⟩, .string ⟨p4.toArray⟩, .int .i64 r4, .int .i64 f4, .bool o4, .slice ao_q no_q co_q, .slice ah_q nh_q ch_q, .slice ac_q nc_q cc_q] 28)
  replace X_k := X_k.alloc (.cells #[.string ⟨s4.toArray⟩, .string ⟨p4.toArray⟩, .int .i64 r4, .int .i64 f4, .bool o4, .slice ao_q no_q co_q, .slice ah_q nh_q ch_q, .slice ac_q nc_q cc_q] 28)
  replace X_l := X_l.alloc (.cells #[.string ⟨s4.toArray⟩, .string ⟨p4.toArray⟩, .int .i64 r4, .int .i64 f4, .bool o4, .slice ao_q no_q co_q, .slice ah_q nh_q ch_q, .slice ac_q nc_q cc_q] 28)
  replace X_p := X_p.alloc (.cells #[.string ⟨s4.toArray⟩, .string ⟨p4.toArray⟩, .int .i64 r4, .int .i64 f4, .bool o4, .slice ao_q no_q co_q, .slice ah_q nh_q ch_q, .slice ac_q nc_q cc_q] 28)
  replace I_a := I_a.below ((Below.refl _ _).alloc (Nat.le_refl _) (.cells #[.string ⟨s4.toArray⟩, .string ⟨p4.toArray⟩, .int .i64 r4, .int .i64 f4, .bool o4, .slice ao_q no_q co_q, .slice ah_q nh_q ch_q, .slice ac_q nc_q cc_q] 28))
  replace I_b := I_b.below ((Below.refl _ _).alloc (Nat.le_refl _) (.cells #[.string ⟨s4.toArray⟩, .string ⟨p4.toArray⟩, .int .i64 r4, .int .i64 f4, .bool o4, .slice ao_q no_q co_q, .slice ah_q nh_q ch_q, .slice ac_q nc_q cc_q] 28))
  replace I_c := I_c.below ((Below.refl _ _).alloc (Nat.le_refl _) (.cells #[.string ⟨s4.toArray⟩, .string ⟨p4.toArray⟩, .int .i64 r4, .int .i64 f4, .bool o4, .slice ao_q no_q co_q, .slice ah_q nh_q ch_q, .slice ac_q nc_q cc_q] 28))
  replace I_d := I_d.below ((Below.refl _ _).alloc (Nat.le_refl _) (.cells #[.string ⟨s4.toArray⟩, .string ⟨p4.toArray⟩, .int .i64 r4, .int .i64 f4, .bool o4, .slice ao_q no_q co_q, .slice ah_q nh_q ch_q, .slice ac_q nc_q cc_q] 28))
  replace I_k := I_k.below ((Below.refl _ _).alloc (Nat.le_refl _) (.cells #[.string ⟨s4.toArray⟩, .string ⟨p4.toArray⟩, .int .i64 r4, .int .i64 f4, .bool o4, .slice ao_q no_q co_q, .slice ah_q nh_q ch_q, .slice ac_q nc_q cc_q] 28))
  replace I_l := I_l.below ((Below.refl _ _).alloc (Nat.le_refl _) (.cells #[.string ⟨s4.toArray⟩, .string ⟨p4.toArray⟩, .int .i64 r4, .int .i64 f4, .bool o4, .slice ao_q no_q co_q, .slice ah_q nh_q ch_q, .slice ac_q nc_q cc_q] 28))
  replace I_p := I_p.below ((Below.refl _ _).alloc (Nat.le_refl _) (.cells #[.string ⟨s4.toArray⟩, .string ⟨p4.toArray⟩, .int .i64 r4, .int .i64 f4, .bool o4, .slice ao_q no_q co_q, .slice ah_q nh_q ch_q, .slice ac_q nc_q cc_q] 28))
  replace I_q := I_q.below ((Below.refl _ _).alloc (Nat.le_refl _) (.cells #[.string ⟨s4.toArray⟩, .string ⟨p4.toArray⟩, .int .i64 r4, .int .i64 f4, .bool o4, .slice ao_q no_q co_q, .slice ah_q nh_q ch_q, .slice ac_q nc_q cc_q] 28))
  replace A_a := A_a.trans (Agr.below ((Below.refl _ _).alloc (Nat.le_refl _) (.cells #[.string ⟨s4.toArray⟩, .string ⟨p4.toArray⟩, .int .i64 r4, .int .i64 f4, .bool o4, .slice ao_q no_q co_q, .slice ah_q nh_q ch_q, .slice ac_q nc_q cc_q] 28)))
  replace A_b := A_b.trans (Agr.below ((Below.refl _ _).alloc (Nat.le_refl _) (.cells #[.string ⟨s4.toArray⟩, .string ⟨p4.toArray⟩, .int .i64 r4, .int .i64 f4, .bool o4, .slice ao_q no_q co_q, .slice ah_q nh_q ch_q, .slice ac_q nc_q cc_q] 28)))
  replace A_c := A_c.trans (Agr.below ((Below.refl _ _).alloc (Nat.le_refl _) (.cells #[.string ⟨s4.toArray⟩, .string ⟨p4.toArray⟩, .int .i64 r4, .int .i64 f4, .bool o4, .slice ao_q no_q co_q, .slice ah_q nh_q ch_q, .slice ac_q nc_q cc_q] 28)))
  replace A_d := A_d.trans (Agr.below ((Below.refl _ _).alloc (Nat.le_refl _) (.cells #[.string ⟨s4.toArray⟩, .string ⟨p4.toArray⟩, .int .i64 r4, .int .i64 f4, .bool o4, .slice ao_q no_q co_q, .slice ah_q nh_q ch_q, .slice ac_q nc_q cc_q] 28)))
  replace A_k := A_k.trans (Agr.below ((Below.refl _ _).alloc (Nat.le_refl _) (.cells #[.string ⟨s4.toArray⟩, .string ⟨p4.toArray⟩, .int .i64 r4, .int .i64 f4, .bool o4, .slice ao_q no_q co_q, .slice ah_q nh_q ch_q, .slice ac_q nc_q cc_q] 28)))
  replace A_l := A_l.trans (Agr.below ((Below.refl _ _).alloc (Nat.le_refl _) (.cells #[.string ⟨s4.toArray⟩, .string ⟨p4.toArray⟩, .int .i64 r4, .int .i64 f4, .bool o4, .slice ao_q no_q co_q, .slice ah_q nh_q ch_q, .slice ac_q nc_q cc_q] 28)))
  replace A_p := A_p.trans (Agr.below ((Below.refl _ _).alloc (Nat.le_refl _) (.cells #[.string ⟨s4.toArray⟩, .string ⟨p4.toArray⟩, .int .i64 r4, .int .i64 f4, .bool o4, .slice ao_q no_q co_q, .slice ah_q nh_q ch_q, .slice ac_q nc_q cc_q] 28)))
  replace A_q := A_q.trans (Agr.below ((Below.refl _ _).alloc (Nat.le_refl _) (.cells #[.string ⟨s4.toArray⟩, .string ⟨p4.toArray⟩, .int .i64 r4, .int .i64 f4, .bool o4, .slice ao_q no_q co_q, .slice ah_q nh_q ch_q, .slice ac_q nc_q cc_q] 28)))
  have X_q := SBox.new w_105 28 #[.string ⟨s4.toArray⟩, .string ⟨p4.toArray⟩, .int .i64 r4, .int .i64 f4, .bool o4, .slice ao_q no_q co_q, .slice ah_q nh_q ch_q, .slice ac_q nc_q cc_q]
  have l_q := Lib.hid B20.size
  have B21 := B20.alloc B20.size (.cells #[.string ⟨s4.toArray⟩, .string ⟨p4.toArray⟩, .int .i64 r4, .int .i64 f4, .bool o4, .slice ao_q no_q co_q, .slice ah_q nh_q ch_q, .slice ac_q nc_q cc_q] 28)
  clear B20
  have c_a0_106 := X_a.cell 0 _ rfl
  have fc_a0_106 := X_a.frozen 0
  have c_a1_107 := X_a.cell 1 _ rfl
  have fc_a1_107 := X_a.frozen 1
  have c_a2_108 := X_a.cell 2 _ rfl
  have fc_a2_108 := X_a.frozen 2
  have c_a3_109 := X_a.cell 3 _ rfl
  have fc_a3_109 := X_a.frozen 3
  have c_a4_110 := X_a.cell 4 _ rfl
  have fc_a4_110 := X_a.frozen 4
  have c_a5_111 := X_a.cell 5 _ rfl
  have fc_a5_111 := X_a.frozen 5
  have c_a6_112 := X_a.cell 6 _ rfl
  have fc_a6_112 := X_a.frozen 6
  have c_a7_113 := X_a.cell 7 _ rfl
  have fc_a7_113 := X_a.frozen 7
  have c_b0_114 := X_b.cell 0 _ rfl
  have fc_b0_114 := X_b.frozen 0
  have c_b1_115 := X_b.cell 1 _ rfl
  have fc_b1_115 := X_b.frozen 1
  have c_b2_116 := X_b.cell 2 _ rfl
  have fc_b2_116 := X_b.frozen 2
  have c_b3_117 := X_b.cell 3 _ rfl
  have fc_b3_117 := X_b.frozen 3
  have c_b4_118 := X_b.cell 4 _ rfl
  have fc_b4_118 := X_b.frozen 4
  have c_b5_119 := X_b.cell 5 _ rfl
  have fc_b5_119 := X_b.frozen 5
  have c_b6_120 := X_b.cell 6 _ rfl
  have fc_b6_120 := X_b.frozen 6
  have c_b7_121 := X_b.cell 7 _ rfl
  have fc_b7_121 := X_b.frozen 7
  go_wp2_with fail
  have D := rsame17_any s1 p1 s1 p1 r1 f1 r1 f1 o1 o1 _ _ _ _ _ _ G_a G_b X1 X1 _ I_a I_b
  rw [eqSd_yes rfl, decide_eq_true rfl] at D
  simp only [stC, Bool.true_and] at D
  refine (D).mono ?_
  rintro e_ w_122 ⟨rfl, b_122⟩
  clear c_a0_106 fc_a0_106 c_a1_107 fc_a1_107 c_a2_108 fc_a2_108 c_a3_109 fc_a3_109 c_a4_110 fc_a4_110 c_a5_111 fc_a5_111 c_a6_112 fc_a6_112 c_a7_113 fc_a7_113 c_b0_114 fc_b0_114 c_b1_115 fc_b1_115 c_b2_116 fc_b2_116 c_b3_117 fc_b3_117 c_b4_118 fc_b4_118 c_b5_119 fc_b5_119 c_b6_120 fc_b6_120 c_b7_121 fc_b7_121
  replace X_s := X_s.below b_122
  replace X_x := X_x.below b_122
  replace X_o := X_o.below b_122
  replace X_a := X_a.below b_122
  replace X_b := X_b.below b_122
  replace X_c := X_c.below b_122
  replace X_d := X_d.below b_122
  replace X_k := X_k.below b_122
  replace X_l := X_l.below b_122
  replace X_p := X_p.below b_122
  replace X_q := X_q.below b_122
  replace I_a := I_a.below b_122
  replace I_b := I_b.below b_122
  replace I_c := I_c.below b_122
  replace I_d := I_d.below b_122
  replace I_k := I_k.below b_122
  replace I_l := I_l.below b_122
  replace I_p := I_p.below b_122
  replace I_q := I_q.below b_122
  replace A_a := A_a.trans (Agr.below b_122)
  replace A_b := A_b.trans (Agr.below b_122)
  replace A_c := A_c.trans (Agr.below b_122)
  replace A_d := A_d.trans (Agr.below b_122)
  replace A_k := A_k.trans (Agr.below b_122)
  replace A_l := A_l.trans (Agr.below b_122)
  replace A_p := A_p.trans (Agr.below b_122)
  replace A_q := A_q.trans (Agr.below b_122)
  have B22 := B21.trans (b_122.mono B21.size)
  clear B21
  clear b_122
  clear D
  have c_c0_123 := X_c.cell 0 _ rfl
  have fc_c0_123 := X_c.frozen 0
  have c_c1_124 := X_c.cell 1 _ rfl
  have fc_c1_124 := X_c.frozen 1
  have c_c2_125 := X_c.cell 2 _ rfl
  have fc_c2_125 := X_c.frozen 2
  have c_c3_126 := X_c.cell 3 _ rfl
  have fc_c3_126 := X_c.frozen 3
  have c_c4_127 := X_c.cell 4 _ rfl
  have fc_c4_127 := X_c.frozen 4
  have c_c5_128 := X_c.cell 5 _ rfl
  have fc_c5_128 := X_c.frozen 5
  have c_c6_129 := X_c.cell 6 _ rfl
  have fc_c6_129 := X_c.frozen 6
  have c_c7_130 := X_c.cell 7 _ rfl
  have fc_c7_130 := X_c.frozen 7
  have c_d0_131 := X_d.cell 0 _ rfl
  have fc_d0_131 := X_d.frozen 0
  have c_d1_132 := X_d.cell 1 _ rfl
  have fc_d1_132 := X_d.frozen 1
  have c_d2_133 := X_d.cell 2 _ rfl
  have fc_d2_133 := X_d.frozen 2
  have c_d3_134 := X_d.cell 3 _ rfl
  have fc_d3_134 := X_d.frozen 3
  have c_d4_135 := X_d.cell 4 _ rfl
  have fc_d4_135 := X_d.frozen 4
  have c_d5_136 := X_d.cell 5 _ rfl
  have fc_d5_136 := X_d.frozen 5
  have c_d6_137 := X_d.cell 6 _ rfl
  have fc_d6_137 := X_d.frozen 6
  have c_d7_138 := X_d.cell 7 _ rfl
  have fc_d7_138 := X_d.frozen 7
  go_wp2_with fail
  have D := rsame17_any s2 p2 s2 p2 r2 f2 r2 f2 o2 o2 _ _ _ _ _ _ G_c G_d X2 X2 _ I_c I_d
  rw [eqSd_yes rfl, decide_eq_true rfl] at D
  simp only [stC, Bool.true_and] at D
  refine (D).mono ?_
  rintro e_ w_139 ⟨rfl, b_139⟩
  clear c_c0_123 fc_c0_123 c_c1_124 fc_c1_124 c_c2_125 fc_c2_125 c_c3_126 fc_c3_126 c_c4_127 fc_c4_127 c_c5_128 fc_c5_128 c_c6_129 fc_c6_129 c_c7_130 fc_c7_130 c_d0_131 fc_d0_131 c_d1_132 fc_d1_132 c_d2_133 fc_d2_133 c_d3_134 fc_d3_134 c_d4_135 fc_d4_135 c_d5_136 fc_d5_136 c_d6_137 fc_d6_137 c_d7_138 fc_d7_138
  replace X_s := X_s.below b_139
  replace X_x := X_x.below b_139
  replace X_o := X_o.below b_139
  replace X_a := X_a.below b_139
  replace X_b := X_b.below b_139
  replace X_c := X_c.below b_139
  replace X_d := X_d.below b_139
  replace X_k := X_k.below b_139
  replace X_l := X_l.below b_139
  replace X_p := X_p.below b_139
  replace X_q := X_q.below b_139
  replace I_a := I_a.below b_139
  replace I_b := I_b.below b_139
  replace I_c := I_c.below b_139
  replace I_d := I_d.below b_139
  replace I_k := I_k.below b_139
  replace I_l := I_l.below b_139
  replace I_p := I_p.below b_139
  replace I_q := I_q.below b_139
  replace A_a := A_a.trans (Agr.below b_139)
  replace A_b := A_b.trans (Agr.below b_139)
  replace A_c := A_c.trans (Agr.below b_139)
  replace A_d := A_d.trans (Agr.below b_139)
  replace A_k := A_k.trans (Agr.below b_139)
  replace A_l := A_l.trans (Agr.below b_139)
  replace A_p := A_p.trans (Agr.below b_139)
  replace A_q := A_q.trans (Agr.below b_139)
  have B23 := B22.trans (b_139.mono B22.size)
  clear B22
  clear b_139
  clear D
  have c_k0_140 := X_k.cell 0 _ rfl
  have fc_k0_140 := X_k.frozen 0
  have c_k1_141 := X_k.cell 1 _ rfl
  have fc_k1_141 := X_k.frozen 1
  have c_k2_142 := X_k.cell 2 _ rfl
  have fc_k2_142 := X_k.frozen 2
  have c_k3_143 := X_k.cell 3 _ rfl
  have fc_k3_143 := X_k.frozen 3
  have c_k4_144 := X_k.cell 4 _ rfl
  have fc_k4_144 := X_k.frozen 4
  have c_k5_145 := X_k.cell 5 _ rfl
  have fc_k5_145 := X_k.frozen 5
  have c_k6_146 := X_k.cell 6 _ rfl
  have fc_k6_146 := X_k.frozen 6
  have c_k7_147 := X_k.cell 7 _ rfl
  have fc_k7_147 := X_k.frozen 7
  have c_l0_148 := X_l.cell 0 _ rfl
  have fc_l0_148 := X_l.frozen 0
  have c_l1_149 := X_l.cell 1 _ rfl
  have fc_l1_149 := X_l.frozen 1
  have c_l2_150 := X_l.cell 2 _ rfl
  have fc_l2_150 := X_l.frozen 2
  have c_l3_151 := X_l.cell 3 _ rfl
  have fc_l3_151 := X_l.frozen 3
  have c_l4_152 := X_l.cell 4 _ rfl
  have fc_l4_152 := X_l.frozen 4
  have c_l5_153 := X_l.cell 5 _ rfl
  have fc_l5_153 := X_l.frozen 5
  have c_l6_154 := X_l.cell 6 _ rfl
  have fc_l6_154 := X_l.frozen 6
  have c_l7_155 := X_l.cell 7 _ rfl
  have fc_l7_155 := X_l.frozen 7
  go_wp2_with fail
  have D := rsame17_any s3 p3 s3 p3 r3 f3 r3 f3 o3 o3 _ _ _ _ _ _ G_k G_l X3 X3 _ I_k I_l
  rw [eqSd_yes rfl, decide_eq_true rfl] at D
  simp only [stC, Bool.true_and] at D
  refine (D).mono ?_
  rintro e_ w_156 ⟨rfl, b_156⟩
  clear c_k0_140 fc_k0_140 c_k1_141 fc_k1_141 c_k2_142 fc_k2_142 c_k3_143 fc_k3_143 c_k4_144 fc_k4_144 c_k5_145 fc_k5_145 c_k6_146 fc_k6_146 c_k7_147 fc_k7_147 c_l0_148 fc_l0_148 c_l1_149 fc_l1_149 c_l2_150 fc_l2_150 c_l3_151 fc_l3_151 c_l4_152 fc_l4_152 c_l5_153 fc_l5_153 c_l6_154 fc_l6_154 c_l7_155 fc_l7_155
  replace X_s := X_s.below b_156
  replace X_x := X_x.below b_156
  replace X_o := X_o.below b_156
  replace X_a := X_a.below b_156
  replace X_b := X_b.below b_156
  replace X_c := X_c.below b_156
  replace X_d := X_d.below b_156
  replace X_k := X_k.below b_156
  replace X_l := X_l.below b_156
  replace X_p := X_p.below b_156
  replace X_q := X_q.below b_156
  replace I_a := I_a.below b_156
  replace I_b := I_b.below b_156
  replace I_c := I_c.below b_156
  replace I_d := I_d.below b_156
  replace I_k := I_k.below b_156
  replace I_l := I_l.below b_156
  replace I_p := I_p.below b_156
  replace I_q := I_q.below b_156
  replace A_a := A_a.trans (Agr.below b_156)
  replace A_b := A_b.trans (Agr.below b_156)
  replace A_c := A_c.trans (Agr.below b_156)
  replace A_d := A_d.trans (Agr.below b_156)
  replace A_k := A_k.trans (Agr.below b_156)
  replace A_l := A_l.trans (Agr.below b_156)
  replace A_p := A_p.trans (Agr.below b_156)
  replace A_q := A_q.trans (Agr.below b_156)
  have B24 := B23.trans (b_156.mono B23.size)
  clear B23
  clear b_156
  clear D
  have c_p0_157 := X_p.cell 0 _ rfl
  have fc_p0_157 := X_p.frozen 0
  have c_p1_158 := X_p.cell 1 _ rfl
  have fc_p1_158 := X_p.frozen 1
  have c_p2_159 := X_p.cell 2 _ rfl
  have fc_p2_159 := X_p.frozen 2
  have c_p3_160 := X_p.cell 3 _ rfl
  have fc_p3_160 := X_p.frozen 3
  have c_p4_161 := X_p.cell 4 _ rfl
  have fc_p4_161 := X_p.frozen 4
  have c_p5_162 := X_p.cell 5 _ rfl
  have fc_p5_162 := X_p.frozen 5
  have c_p6_163 := X_p.cell 6 _ rfl
  have fc_p6_163 := X_p.frozen 6
  have c_p7_164 := X_p.cell 7 _ rfl
  have fc_p7_164 := X_p.frozen 7
  have c_q0_165 := X_q.cell 0 _ rfl
  have fc_q0_165 := X_q.frozen 0
  have c_q1_166 := X_q.cell 1 _ rfl
  have fc_q1_166 := X_q.frozen 1
  have c_q2_167 := X_q.cell 2 _ rfl
  have fc_q2_167 := X_q.frozen 2
  have c_q3_168 := X_q.cell 3 _ rfl
  have fc_q3_168 := X_q.frozen 3
  have c_q4_169 := X_q.cell 4 _ rfl
  have fc_q4_169 := X_q.frozen 4
  have c_q5_170 := X_q.cell 5 _ rfl
  have fc_q5_170 := X_q.frozen 5
  have c_q6_171 := X_q.cell 6 _ rfl
  have fc_q6_171 := X_q.frozen 6
  have c_q7_172 := X_q.cell 7 _ rfl
  have fc_q7_172 := X_q.frozen 7
  go_wp2_with fail
  have D := rsame17_any s4 p4 s4 p4 r4 f4 r4 f4 o4 o4 _ _ _ _ _ _ G_p G_q X4 X4 _ I_p I_q
  rw [eqSd_yes rfl, decide_eq_true rfl] at D
  simp only [stC, Bool.true_and] at D
  refine (D).mono ?_
  rintro e_ w_173 ⟨rfl, b_173⟩
  clear c_p0_157 fc_p0_157 c_p1_158 fc_p1_158 c_p2_159 fc_p2_159 c_p3_160 fc_p3_160 c_p4_161 fc_p4_161 c_p5_162 fc_p5_162 c_p6_163 fc_p6_163 c_p7_164 fc_p7_164 c_q0_165 fc_q0_165 c_q1_166 fc_q1_166 c_q2_167 fc_q2_167 c_q3_168 fc_q3_168 c_q4_169 fc_q4_169 c_q5_170 fc_q5_170 c_q6_171 fc_q6_171 c_q7_172 fc_q7_172
  replace X_s := X_s.below b_173
  replace X_x := X_x.below b_173
  replace X_o := X_o.below b_173
  replace X_a := X_a.below b_173
  replace X_b := X_b.below b_173
  replace X_c := X_c.below b_173
  replace X_d := X_d.below b_173
  replace X_k := X_k.below b_173
  replace X_l := X_l.below b_173
  replace X_p := X_p.below b_173
  replace X_q := X_q.below b_173
  replace I_a := I_a.below b_173
  replace I_b := I_b.below b_173
  replace I_c := I_c.below b_173
  replace I_d := I_d.below b_173
  replace I_k := I_k.below b_173
  replace I_l := I_l.below b_173
  replace I_p := I_p.below b_173
  replace I_q := I_q.below b_173
  replace A_a := A_a.trans (Agr.below b_173)
  replace A_b := A_b.trans (Agr.below b_173)
  replace A_c := A_c.trans (Agr.below b_173)
  replace A_d := A_d.trans (Agr.below b_173)
  replace A_k := A_k.trans (Agr.below b_173)
  replace A_l := A_l.trans (Agr.below b_173)
  replace A_p := A_p.trans (Agr.below b_173)
  replace A_q := A_q.trans (Agr.below b_173)
  have B25 := B24.trans (b_173.mono B24.size)
  clear B24
  clear b_173
  clear D
  clear X_a I_a A_a HT_a X_b I_b A_b HT_b X_c I_c A_c HT_c X_d I_d A_d HT_d X_k I_k A_k HT_k X_l I_l A_l HT_l X_p I_p A_p HT_p X_q I_q A_q HT_q
  go_wp2_with fail
  refine (P5.out _).mono ?_
  rintro e_ w_174 ⟨uo_y, uh_y, uc_y, rfl, b_174, G_y, hT⟩
  replace X_s := X_s.below b_174
  replace X_x := X_x.below b_174
  replace X_o := X_o.below b_174
  have B26 := B25.trans (b_174.mono B25.size)
  clear B25
  clear b_174
  have A_y := agrOf hT
  have HT_y := Lib.hid hT
  clear hT
  have I_y := HT_y.out _ A_y (StIn.zero _)
  obtain ⟨ao_y, no_y, co_y, ah_y, nh_y, ch_y, ac_y, nc_y, cc_y, rfl, rfl, rfl⟩ := I_y.slices
  replace X_s := X_s.alloc (.cells #[.string ⟨s5.toArray⟩, .string ⟨p5.toArray⟩, .int .i64 r5, .int .i64 f5, .bool o5, .slice ao_y no_y co_y, .slice ah_y nh_y ch_y, .slice ac_y nc_y cc_y] 28)
  replace X_x := X_x.alloc (.cells #[.string ⟨s5.toArray⟩, .string ⟨p5.toArray⟩, .int .i64 r5, .int .i64 f5, .bool o5, .slice ao_y no_y co_y, .slice ah_y nh_y ch_y, .slice ac_y nc_y cc_y] 28)
  replace X_o := X_o.alloc (.cells #[.string ⟨s5.toArray⟩, .string ⟨p5.toArray⟩, .int .i64 r5, .int .i64 f5, .bool o5, .slice ao_y no_y co_y, .slice ah_y nh_y ch_y, .slice ac_y nc_y cc_y] 28)
  replace I_y := I_y.below ((Below.refl _ _).alloc (Nat.le_refl _) (.cells #[.string ⟨s5.toArray⟩, .string ⟨p5.toArray⟩, .int .i64 r5, .int .i64 f5, .bool o5, .slice ao_y no_y co_y, .slice ah_y nh_y ch_y, .slice ac_y nc_y cc_y] 28))
  replace A_y := A_y.trans (Agr.below ((Below.refl _ _).alloc (Nat.le_refl _) (.cells #[.string ⟨s5.toArray⟩, .string ⟨p5.toArray⟩, .int .i64 r5, .int .i64 f5, .bool o5, .slice ao_y no_y co_y, .slice ah_y nh_y ch_y, .slice ac_y nc_y cc_y] 28)))
  have X_y := SBox.new w_174 28 #[.string ⟨s5.toArray⟩, .string ⟨p5.toArray⟩, .int .i64 r5, .int .i64 f5, .bool o5, .slice ao_y no_y co_y, .slice ah_y nh_y ch_y, .slice ac_y nc_y cc_y]
  have l_y := Lib.hid B26.size
  have B27 := B26.alloc B26.size (.cells #[.string ⟨s5.toArray⟩, .string ⟨p5.toArray⟩, .int .i64 r5, .int .i64 f5, .bool o5, .slice ao_y no_y co_y, .slice ah_y nh_y ch_y, .slice ac_y nc_y cc_y] 28)
  clear B26
  have c_s0_175 := X_s.cell 0 _ rfl
  have fc_s0_175 := X_s.frozen 0
  have c_s1_176 := X_s.cell 1 _ rfl
  have fc_s1_176 := X_s.frozen 1
  have c_s2_177 := X_s.cell 2 _ rfl
  have fc_s2_177 := X_s.frozen 2
  have c_s3_178 := X_s.cell 3 _ rfl
  have fc_s3_178 := X_s.frozen 3
  have c_s4_179 := X_s.cell 4 _ rfl
  have fc_s4_179 := X_s.frozen 4
  have c_s5_180 := X_s.cell 5 _ rfl
  have fc_s5_180 := X_s.frozen 5
  have c_s6_181 := X_s.cell 6 _ rfl
  have fc_s6_181 := X_s.frozen 6
  have c_s7_182 := X_s.cell 7 _ rfl
  have fc_s7_182 := X_s.frozen 7
  have c_x0_183 := X_x.cell 0 _ rfl
  have fc_x0_183 := X_x.frozen 0
  have c_x1_184 := X_x.cell 1 _ rfl
  have fc_x1_184 := X_x.frozen 1
  have c_x2_185 := X_x.cell 2 _ rfl
  have fc_x2_185 := X_x.frozen 2
  have c_x3_186 := X_x.cell 3 _ rfl
  have fc_x3_186 := X_x.frozen 3
  go_wp2_with fail
  refine (R5.out _).mono ?_
  rintro e_ w_187 ⟨uo_z, uh_z, uc_z, rfl, b_187, G_z, hT⟩
  clear c_s0_175 fc_s0_175 c_s1_176 fc_s1_176 c_s2_177 fc_s2_177 c_s3_178 fc_s3_178 c_s4_179 fc_s4_179 c_s5_180 fc_s5_180 c_s6_181 fc_s6_181 c_s7_182 fc_s7_182 c_x0_183 fc_x0_183 c_x1_184 fc_x1_184 c_x2_185 fc_x2_185 c_x3_186 fc_x3_186
  replace X_s := X_s.below b_187
  replace X_x := X_x.below b_187
  replace X_o := X_o.below b_187
  replace X_y := X_y.below b_187
  replace I_y := I_y.below b_187
  replace A_y := A_y.trans (Agr.below b_187)
  have B28 := B27.trans (b_187.mono B27.size)
  clear B27
  clear b_187
  have A_z := agrOf hT
  have HT_z := Lib.hid hT
  clear hT
  have I_z := HT_z.out _ A_z (StIn.zero _)
  obtain ⟨ao_z, no_z, co_z, ah_z, nh_z, ch_z, ac_z, nc_z, cc_z, rfl, rfl, rfl⟩ := I_z.slices
  replace X_s := X_s.alloc (.cells #[.string ⟨s5.toArray⟩, .string ⟨p5.toArray⟩, .int .i64 r5, .int .i64 f5, .bool o5, .slice ao_z no_z co_z, .slice ah_z nh_z ch_z, .slice ac_z nc_z cc_z] 28)
  replace X_x := X_x.alloc (.cells #[.string ⟨s5.toArray⟩, .string ⟨p5.toArray⟩, .int .i64 r5, .int .i64 f5, .bool o5, .slice ao_z no_z co_z, .slice ah_z nh_z ch_z, .slice ac_z nc_z cc_z] 28)
  replace X_o := X_o.alloc (.cells #[.string ⟨s5.toArray⟩, .string ⟨p5.toArray⟩, .int .i64 r5, .int .i64 f5, .bool o5, .slice ao_z no_z co_z, .slice ah_z nh_z ch_z, .slice ac_z nc_z cc_z] 28)
  replace X_y := X_y.alloc (.cells #[.string ⟨s5.toArray⟩, .string ⟨p5.toArray⟩, .int .i64 r5, .int .i64 f5, .bool o5, .slice ao_z no_z co_z, .slice ah_z nh_z ch_z, .slice ac_z nc_z cc_z] 28)
  replace I_y := I_y.below ((Below.refl _ _).alloc (Nat.le_refl _) (.cells #[.string ⟨s5.toArray⟩, .string ⟨p5.toArray⟩, .int .i64 r5, .int .i64 f5, .bool o5, .slice ao_z no_z co_z, .slice ah_z nh_z ch_z, .slice ac_z nc_z cc_z] 28))
  replace I_z := I_z.below ((Below.refl _ _).alloc (Nat.le_refl _) (.cells #[.string ⟨s5.toArray⟩, .string ⟨p5.toArray⟩, .int .i64 r5, .int .i64 f5, .bool o5, .slice ao_z no_z co_z, .slice ah_z nh_z ch_z, .slice ac_z nc_z cc_z] 28))
  replace A_y := A_y.trans (Agr.below ((Below.refl _ _).alloc (Nat.le_refl _) (.cells #[.string ⟨s5.toArray⟩, .string ⟨p5.toArray⟩, .int .i64 r5, .int .i64 f5, .bool o5, .slice ao_z no_z co_z, .slice ah_z nh_z ch_z, .slice ac_z nc_z cc_z] 28)))
  replace A_z := A_z.trans (Agr.below ((Below.refl _ _).alloc (Nat.le_refl _) (.cells #[.string ⟨s5.toArray⟩, .string ⟨p5.toArray⟩, .int .i64 r5, .int .i64 f5, .bool o5, .slice ao_z no_z co_z, .slice ah_z nh_z ch_z, .slice ac_z nc_z cc_z] 28)))
  have X_z := SBox.new w_187 28 #[.string ⟨s5.toArray⟩, .string ⟨p5.toArray⟩, .int .i64 r5, .int .i64 f5, .bool o5, .slice ao_z no_z co_z, .slice ah_z nh_z ch_z, .slice ac_z nc_z cc_z]
  have l_z := Lib.hid B28.size
  have B29 := B28.alloc B28.size (.cells #[.string ⟨s5.toArray⟩, .string ⟨p5.toArray⟩, .int .i64 r5, .int .i64 f5, .bool o5, .slice ao_z no_z co_z, .slice ah_z nh_z ch_z, .slice ac_z nc_z cc_z] 28)
  clear B28
  have c_s0_188 := X_s.cell 0 _ rfl
  have fc_s0_188 := X_s.frozen 0
  have c_s1_189 := X_s.cell 1 _ rfl
  have fc_s1_189 := X_s.frozen 1
  have c_s2_190 := X_s.cell 2 _ rfl
  have fc_s2_190 := X_s.frozen 2
  have c_s3_191 := X_s.cell 3 _ rfl
  have fc_s3_191 := X_s.frozen 3
  have c_s4_192 := X_s.cell 4 _ rfl
  have fc_s4_192 := X_s.frozen 4
  have c_s5_193 := X_s.cell 5 _ rfl
  have fc_s5_193 := X_s.frozen 5
  have c_s6_194 := X_s.cell 6 _ rfl
  have fc_s6_194 := X_s.frozen 6
  have c_s7_195 := X_s.cell 7 _ rfl
  have fc_s7_195 := X_s.frozen 7
  have c_x0_196 := X_x.cell 0 _ rfl
  have fc_x0_196 := X_x.frozen 0
  have c_x1_197 := X_x.cell 1 _ rfl
  have fc_x1_197 := X_x.frozen 1
  have c_x2_198 := X_x.cell 2 _ rfl
  have fc_x2_198 := X_x.frozen 2
  have c_x3_199 := X_x.cell 3 _ rfl
  have fc_x3_199 := X_x.frozen 3
  go_wp2_with fail
  have CS0 : ∀ (U : World) (A B v : Value), ((A, B, v) = (.agg #[.string ⟨s5.toArray⟩, .string ⟨p5.toArray⟩, .int .i64 r5, .int .i64 f5, .bool o5, .slice ao_y no_y co_y, .slice ah_y nh_y ch_y, .slice ac_y nc_y cc_y], .agg #[.string ⟨s5.toArray⟩, .string ⟨p5.toArray⟩, .int .i64 r5, .int .i64 f5, .bool o5, .slice ao_z no_z co_z, .slice ah_z nh_z ch_z, .slice ac_z nc_z cc_z], .bool true) ∨ (A, B, v) = (.agg #[.string ⟨s6.toArray⟩, .string ⟨p6.toArray⟩, .int .i64 r6, .int .i64 f6, .bool o6, .slice ao_s no_s co_s, .slice ah_s nh_s ch_s, .slice ac_s nc_s cc_s], .agg #[.string ⟨s6.toArray⟩, .string ⟨p6.toArray⟩, .int .i64 r6, .int .i64 f6, .bool o6, .slice ao_s no_s co_s, .slice ah_s nh_s ch_s, .slice ac_s nc_s cc_s], .bool true)) → Calls Try.prog 19 #[A, B] (farW (w_187.alloc (.cells #[.string ⟨s5.toArray⟩, .string ⟨p5.toArray⟩, .int .i64 r5, .int .i64 f5, .bool o5, .slice ao_z no_z co_z, .slice ah_z nh_z ch_z, .slice ac_z nc_z cc_z] 28)) U) fun e w' => e = .returned v ∧ Below (farW (w_187.alloc (.cells #[.string ⟨s5.toArray⟩, .string ⟨p5.toArray⟩, .int .i64 r5, .int .i64 f5, .bool o5, .slice ao_z no_z co_z, .slice ah_z nh_z ch_z, .slice ac_z nc_z cc_z] 28)) U).heap.size (farW (w_187.alloc (.cells #[.string ⟨s5.toArray⟩, .string ⟨p5.toArray⟩, .int .i64 r5, .int .i64 f5, .bool o5, .slice ao_z no_z co_z, .slice ah_z nh_z ch_z, .slice ac_z nc_z cc_z] 28)) U) w' := fun U A B v h => by
    rcases h with h | h
    · simp only [Prod.mk.injEq] at h
      obtain ⟨rfl, rfl, rfl⟩ := h
      have D := rsame17_any s5 p5 s5 p5 r5 f5 r5 f5 o5 o5 _ _ _ _ _ _ G_y G_z X5 X5 _ (I_y.below (farW_bel (w_187.alloc (.cells #[.string ⟨s5.toArray⟩, .string ⟨p5.toArray⟩, .int .i64 r5, .int .i64 f5, .bool o5, .slice ao_z no_z co_z, .slice ah_z nh_z ch_z, .slice ac_z nc_z cc_z] 28)) U)) (I_z.below (farW_bel (w_187.alloc (.cells #[.string ⟨s5.toArray⟩, .string ⟨p5.toArray⟩, .int .i64 r5, .int .i64 f5, .bool o5, .slice ao_z no_z co_z, .slice ah_z nh_z ch_z, .slice ac_z nc_z cc_z] 28)) U))
      rw [eqSd_yes rfl, decide_eq_true rfl] at D
      simp only [stC, Bool.true_and] at D
      exact D
    · simp only [Prod.mk.injEq] at h
      obtain ⟨rfl, rfl, rfl⟩ := h
      have D := rsame17_any s6 p6 s6 p6 r6 f6 r6 f6 o6 o6 _ _ _ _ _ _ H' H' x x _ (HS.out.below (B29.trans ((farW_bel (w_187.alloc (.cells #[.string ⟨s5.toArray⟩, .string ⟨p5.toArray⟩, .int .i64 r5, .int .i64 f5, .bool o5, .slice ao_z no_z co_z, .slice ah_z nh_z ch_z, .slice ac_z nc_z cc_z] 28)) U).mono B29.size))) (HS.out.below (B29.trans ((farW_bel (w_187.alloc (.cells #[.string ⟨s5.toArray⟩, .string ⟨p5.toArray⟩, .int .i64 r5, .int .i64 f5, .bool o5, .slice ao_z no_z co_z, .slice ah_z nh_z ch_z, .slice ac_z nc_z cc_z] 28)) U).mono B29.size)))
      rw [eqSd_yes rfl, decide_eq_true rfl] at D
      simp only [stC, Bool.true_and] at D
      exact D
  have CS := Lib.hid CS0
  clear CS0
  have CP := Lib.hid (fun U => P6.out (farW (w_187.alloc (.cells #[.string ⟨s5.toArray⟩, .string ⟨p5.toArray⟩, .int .i64 r5, .int .i64 f5, .bool o5, .slice ao_z no_z co_z, .slice ah_z nh_z ch_z, .slice ac_z nc_z cc_z] 28)) U) (HS.out.below (B29.trans ((farW_bel (w_187.alloc (.cells #[.string ⟨s5.toArray⟩, .string ⟨p5.toArray⟩, .int .i64 r5, .int .i64 f5, .bool o5, .slice ao_z no_z co_z, .slice ah_z nh_z ch_z, .slice ac_z nc_z cc_z] 28)) U).mono B29.size))))
  have CR := Lib.hid (fun U => R6.out (farW (w_187.alloc (.cells #[.string ⟨s5.toArray⟩, .string ⟨p5.toArray⟩, .int .i64 r5, .int .i64 f5, .bool o5, .slice ao_z no_z co_z, .slice ah_z nh_z ch_z, .slice ac_z nc_z cc_z] 28)) U) (HS.out.below (B29.trans ((farW_bel (w_187.alloc (.cells #[.string ⟨s5.toArray⟩, .string ⟨p5.toArray⟩, .int .i64 r5, .int .i64 f5, .bool o5, .slice ao_z no_z co_z, .slice ah_z nh_z ch_z, .slice ac_z nc_z cc_z] 28)) U).mono B29.size))))
  clear c_s0_188 fc_s0_188 c_s1_189 fc_s1_189 c_s2_190 fc_s2_190 c_s3_191 fc_s3_191 c_s4_192 fc_s4_192 c_s5_193 fc_s5_193 c_s6_194 fc_s6_194 c_s7_195 fc_s7_195 c_x0_196 fc_x0_196 c_x1_197 fc_x1_197 c_x2_198 fc_x2_198 c_x3_199 fc_x3_199
  have c_s0_200 := X_s.cell 0 _ rfl
  have fc_s0_200 := X_s.frozen 0
  have c_s1_201 := X_s.cell 1 _ rfl
  have fc_s1_201 := X_s.frozen 1
  have c_s2_202 := X_s.cell 2 _ rfl
  have fc_s2_202 := X_s.frozen 2
  have c_s3_203 := X_s.cell 3 _ rfl
  have fc_s3_203 := X_s.frozen 3
  have c_s4_204 := X_s.cell 4 _ rfl
  have fc_s4_204 := X_s.frozen 4
  have c_s5_205 := X_s.cell 5 _ rfl
  have fc_s5_205 := X_s.frozen 5
  have c_s6_206 := X_s.cell 6 _ rfl
  have fc_s6_206 := X_s.frozen 6
  have c_s7_207 := X_s.cell 7 _ rfl
  have fc_s7_207 := X_s.frozen 7
  have c_y0_208 := X_y.cell 0 _ rfl
  have fc_y0_208 := X_y.frozen 0
  have c_y1_209 := X_y.cell 1 _ rfl
  have fc_y1_209 := X_y.frozen 1
  have c_y2_210 := X_y.cell 2 _ rfl
  have fc_y2_210 := X_y.frozen 2
  have c_y3_211 := X_y.cell 3 _ rfl
  have fc_y3_211 := X_y.frozen 3
  have c_y4_212 := X_y.cell 4 _ rfl
  have fc_y4_212 := X_y.frozen 4
  have c_y5_213 := X_y.cell 5 _ rfl
  have fc_y5_213 := X_y.frozen 5
  have c_y6_214 := X_y.cell 6 _ rfl
  have fc_y6_214 := X_y.frozen 6
  have c_y7_215 := X_y.cell 7 _ rfl
  have fc_y7_215 := X_y.frozen 7
  have c_z0_216 := X_z.cell 0 _ rfl
  have fc_z0_216 := X_z.frozen 0
  have c_z1_217 := X_z.cell 1 _ rfl
  have fc_z1_217 := X_z.frozen 1
  have c_z2_218 := X_z.cell 2 _ rfl
  have fc_z2_218 := X_z.frozen 2
  have c_z3_219 := X_z.cell 3 _ rfl
  have fc_z3_219 := X_z.frozen 3
  have c_z4_220 := X_z.cell 4 _ rfl
  have fc_z4_220 := X_z.frozen 4
  have c_z5_221 := X_z.cell 5 _ rfl
  have fc_z5_221 := X_z.frozen 5
  have c_z6_222 := X_z.cell 6 _ rfl
  have fc_z6_222 := X_z.frozen 6
  have c_z7_223 := X_z.cell 7 _ rfl
  have fc_z7_223 := X_z.frozen 7
  go_wp2_with fail
  have HBF := Lib.hid B29
  refine region_far (by kernel_rfl) (by kernel_rfl) ?_
  repeat (first | go_big_quiet_skip | (go_big_quiet_want; go_big_quiet_op; first | go_big_quiet_on | go_big_quiet_call (first | (go_at_call 19; first | (refine calls_far (CS.out _ _ _ (.bool true) ?_); exact Or.inl rfl) | (refine calls_far (CS.out _ _ _ (.bool true) ?_); exact Or.inr rfl)) | (go_at_call 22; exact calls_far (CP.out _)) | (go_at_call 23; exact calls_far (CR.out _)))))
  refine wpQuiet_nil ?_
  rintro w' ⟨U, rfl⟩
  have FB := farW_bel (w_187.alloc (.cells #[.string ⟨s5.toArray⟩, .string ⟨p5.toArray⟩, .int .i64 r5, .int .i64 f5, .bool o5, .slice ao_z no_z co_z, .slice ah_z nh_z ch_z, .slice ac_z nc_z cc_z] 28)) U
  clear c_s0_200 fc_s0_200 c_s1_201 fc_s1_201 c_s2_202 fc_s2_202 c_s3_203 fc_s3_203 c_s4_204 fc_s4_204 c_s5_205 fc_s5_205 c_s6_206 fc_s6_206 c_s7_207 fc_s7_207 c_y0_208 fc_y0_208 c_y1_209 fc_y1_209 c_y2_210 fc_y2_210 c_y3_211 fc_y3_211 c_y4_212 fc_y4_212 c_y5_213 fc_y5_213 c_y6_214 fc_y6_214 c_y7_215 fc_y7_215 c_z0_216 fc_z0_216 c_z1_217 fc_z1_217 c_z2_218 fc_z2_218 c_z3_219 fc_z3_219 c_z4_220 fc_z4_220 c_z5_221 fc_z5_221 c_z6_222 fc_z6_222 c_z7_223 fc_z7_223
  clear CS CP CR HBF X_y I_y A_y HT_y X_z I_z A_z HT_z
  obtain ⟨wB, hwB⟩ : ∃ wB, farW (w_187.alloc (.cells #[.string ⟨s5.toArray⟩, .string ⟨p5.toArray⟩, .int .i64 r5, .int .i64 f5, .bool o5, .slice ao_z no_z co_z, .slice ah_z nh_z ch_z, .slice ac_z nc_z cc_z] 28)) U = wB := ⟨_, rfl⟩
  rw [hwB] at FB ⊢
  clear hwB
  replace X_s := X_s.below FB
  replace X_x := X_x.below FB
  replace X_o := X_o.below FB
  have B30 := B29.trans (FB.mono B29.size)
  clear B29
  clear FB
  have CS0 : ∀ (U : World) (A B v : Value), ((A, B, v) = (.agg #[.string ⟨s.toArray⟩, .string ⟨p.toArray⟩, .int .i64 r, .int .i64 f, .bool o, .slice ao_s no_s co_s, .slice ah_s nh_s ch_s, .slice ac_s nc_s cc_s], .agg #[.string ⟨s9.toArray⟩, .string ⟨p9.toArray⟩, .int .i64 r9, .int .i64 f9, .bool o9, .slice ao_o no_o co_o, .slice ah_o nh_o ch_o, .slice ac_o nc_o cc_o], .bool bq)) → Calls Try.prog 19 #[A, B] (farW wB U) fun e w' => e = .returned v ∧ Below (farW wB U).heap.size (farW wB U) w' := fun U A B v h => by
    simp only [Prod.mk.injEq] at h
    obtain ⟨rfl, rfl, rfl⟩ := h
    have D := rsame17_any s p s9 p9 r f r9 f9 o o9 _ _ _ _ _ _ H' G9 x z9 _ (HS.out.below (B30.trans ((farW_bel wB U).mono B30.size))) (HO.out.below (B30.trans ((farW_bel wB U).mono B30.size)))
    rw [hbq.out] at D
    simp only [stC] at D
    exact D
  have CS := Lib.hid CS0
  clear CS0
  have CQ0 : ∀ (U : World) (A B v : Value), ((A, B, v) = (.agg #[.string ⟨s.toArray⟩, .string ⟨p.toArray⟩, .int .i64 r, .int .i64 f, .bool o, .slice ao_s no_s co_s, .slice ah_s nh_s ch_s, .slice ac_s nc_s cc_s], .agg #[.string ⟨s9.toArray⟩, .string ⟨p9.toArray⟩, .int .i64 r9, .int .i64 f9, .bool o9, .slice ao_o no_o co_o, .slice ah_o nh_o ch_o, .slice ac_o nc_o cc_o], .bool bq) ∨ (A, B, v) = (.agg #[.string ⟨s.toArray⟩, .string ⟨p.toArray⟩, .int .i64 r, .int .i64 f, .bool o, .slice ao_s no_s co_s, .slice ah_s nh_s ch_s, .slice ac_s nc_s cc_s], .agg #[.string ⟨s.toArray⟩, .string ⟨p.toArray⟩, .int .i64 r, .int .i64 f, .bool o, .slice ao_s no_s co_s, .slice ah_s nh_s ch_s, .slice ac_s nc_s cc_s], .bool true)) → Calls Try.prog 24 #[A, B] (farW wB U) fun e w' => e = .returned v ∧ Below (farW wB U).heap.size (farW wB U) w' := fun U A B v h => by
    rcases h with h | h
    · simp only [Prod.mk.injEq] at h
      obtain ⟨rfl, rfl, rfl⟩ := h
      have D := psame17_any s p s9 p9 r f r9 f9 o o9 _ _ _ _ _ _ H' G9 x z9 _ (HS.out.below (B30.trans ((farW_bel wB U).mono B30.size))) (HO.out.below (B30.trans ((farW_bel wB U).mono B30.size)))
      rw [hbq.out] at D
      simp only [stC] at D
      exact D
    · simp only [Prod.mk.injEq] at h
      obtain ⟨rfl, rfl, rfl⟩ := h
      have D := psame17_any s p s p r f r f o o _ _ _ _ _ _ H' H' x x _ (HS.out.below (B30.trans ((farW_bel wB U).mono B30.size))) (HS.out.below (B30.trans ((farW_bel wB U).mono B30.size)))
      rw [eqSd_yes rfl, decide_eq_true rfl] at D
      simp only [stC, Bool.true_and] at D
      exact D
  have CQ := Lib.hid CQ0
  clear CQ0
  have c_s0_224 := X_s.cell 0 _ rfl
  have fc_s0_224 := X_s.frozen 0
  have c_s1_225 := X_s.cell 1 _ rfl
  have fc_s1_225 := X_s.frozen 1
  have c_s2_226 := X_s.cell 2 _ rfl
  have fc_s2_226 := X_s.frozen 2
  have c_s3_227 := X_s.cell 3 _ rfl
  have fc_s3_227 := X_s.frozen 3
  have c_s4_228 := X_s.cell 4 _ rfl
  have fc_s4_228 := X_s.frozen 4
  have c_s5_229 := X_s.cell 5 _ rfl
  have fc_s5_229 := X_s.frozen 5
  have c_s6_230 := X_s.cell 6 _ rfl
  have fc_s6_230 := X_s.frozen 6
  have c_s7_231 := X_s.cell 7 _ rfl
  have fc_s7_231 := X_s.frozen 7
  have c_o0_232 := X_o.cell 0 _ rfl
  have fc_o0_232 := X_o.frozen 0
  have c_o1_233 := X_o.cell 1 _ rfl
  have fc_o1_233 := X_o.frozen 1
  have c_o2_234 := X_o.cell 2 _ rfl
  have fc_o2_234 := X_o.frozen 2
  have c_o3_235 := X_o.cell 3 _ rfl
  have fc_o3_235 := X_o.frozen 3
  have c_o4_236 := X_o.cell 4 _ rfl
  have fc_o4_236 := X_o.frozen 4
  have c_o5_237 := X_o.cell 5 _ rfl
  have fc_o5_237 := X_o.frozen 5
  have c_o6_238 := X_o.cell 6 _ rfl
  have fc_o6_238 := X_o.frozen 6
  have c_o7_239 := X_o.cell 7 _ rfl
  have fc_o7_239 := X_o.frozen 7
  go_wp2_with fail
  have HBF := Lib.hid B30
  refine region_far (by kernel_rfl) (by kernel_rfl) ?_
  repeat (first | go_big_quiet_skip | (go_big_quiet_want; go_big_quiet_op; first | go_big_quiet_on | go_big_quiet_call (first | (go_at_call 19; exact calls_far (CS.out _ _ _ (.bool bq) rfl)) | (go_at_call 24; first | (refine calls_far (CQ.out _ _ _ (.bool bq) ?_); exact Or.inl rfl) | (refine calls_far (CQ.out _ _ _ (.bool true) ?_); exact Or.inr rfl)))))
  refine wpQuiet_nil ?_
  rintro w' ⟨U, rfl⟩
  have FB := farW_bel wB U
  clear c_s0_224 fc_s0_224 c_s1_225 fc_s1_225 c_s2_226 fc_s2_226 c_s3_227 fc_s3_227 c_s4_228 fc_s4_228 c_s5_229 fc_s5_229 c_s6_230 fc_s6_230 c_s7_231 fc_s7_231 c_o0_232 fc_o0_232 c_o1_233 fc_o1_233 c_o2_234 fc_o2_234 c_o3_235 fc_o3_235 c_o4_236 fc_o4_236 c_o5_237 fc_o5_237 c_o6_238 fc_o6_238 c_o7_239 fc_o7_239
  have BZ := HBF.out.trans (FB.mono HBF.out.size)
  generalize farW wB U = wZ at BZ ⊢
  go_wp2_with fail
  go_ret
  exact ⟨rfl, BZ⟩
end Go.Proofs.Ytngllioidfffdaa
