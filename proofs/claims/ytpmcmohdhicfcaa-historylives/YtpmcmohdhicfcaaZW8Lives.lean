/-
  The walk of HistoryLives.
-/
import Derived.Test.YtpmcmohdhicfcaaZShown8
import Derived.Test.YtpmcmohdhicfcaaZR8Lives
import Derived.Test.YtpmcmohdhicfcaaZR8Keys
import Derived.Test.YtpmcmohdhicfcaaZR8Lifes
import Derived.Test.YtpmcmohdhicfcaaZRSame2
import Derived.Test.YtpmcmohdhicfcaaGE
import Derived.Deep.RegionHeld3
import Derived.BigQuiet
import Derived.Deep.QuietTactic
namespace Go.Proofs.Ytpmcmohdhicfcaa
set_option maxRecDepth 100000
open Go.RowKit
set_option linter.unusedVariables false
attribute [local go_sem] ba_size ba_append ba_get ba_extract
set_option maxHeartbeats 4000000 in
theorem lives8_walk (C : P8C) (w : World) (vh : Value) (h : List Ev) (Th : IsEvs w vh h) (Gh : ∀ x ∈ h, goodE x) (t : Int) (gt : goodI t) :
    Calls Try.prog 4 #[vh, .int .i64 t] w fun e w' => e = .returned (.bool true) ∧ Below w.heap.size w w' := by
  have HSh : Hid (∀ W, Below w.heap.size w W → Calls Try.prog 11 #[] W fun e w' => e = .returned (.bool true) ∧ Below W.heap.size W w') := fun W h => shown8_any C W
  have HF : Hid (∀ W, Below w.heap.size w W → Calls Try.prog 12 #[vh] W fun e w' => e = .returned (.bool (decide (h.length ≤ 300))) ∧ Below W.heap.size W w') := fun W hb => few8_any vh h W (Th.below hb)
  by_cases h1 : h.length ≤ 300
  · rw [decide_eq_true h1] at HF
    have HL : Hid (∀ W, Below w.heap.size w W → Calls Try.prog 16 #[vh] W fun e w' => LfRow 37 W (livesL h) e w') := fun W hb => C.lives h vh W (Th.below hb) Gh h1
    have RL : Hid (∀ W, Below w.heap.size w W → Calls Try.prog 17 #[vh] W fun e w' => LfRow 37 W (livesL h) e w') := fun W hb => rlives_any h vh W (Th.below hb) h1
    have HK : Hid (∀ W, Below w.heap.size w W → Calls Try.prog 19 #[vh] W fun e w' => TxsRow W (keysL h) e w') := fun W hb => C.keys h vh W (Th.below hb) Gh h1
    have RK : Hid (∀ W, Below w.heap.size w W → Calls Try.prog 20 #[vh] W fun e w' => TxRow W (keysL h) e w') := fun W hb => rkeys_any h vh W (Th.below hb) h1 (fun x hx => by have := Gh x hx; unfold goodE at this; omega)
    have HI : Hid (∀ W, Below w.heap.size w W → Calls Try.prog 21 #[vh, .int .i64 t] W fun e w' => e = .returned (.tuple #[lifA (findP h t).1, .bool (findP h t).2]) ∧ Below W.heap.size W w') := fun W hb => C.find h vh W t (Th.below hb) Gh gt
    have RI : Hid (∀ W, Below w.heap.size w W → Calls Try.prog 22 #[vh, .int .i64 t] W fun e w' => e = .returned (.tuple #[lifA (findP h t).1, .bool (findP h t).2]) ∧ Below W.heap.size W w') := fun W hb => rfind_any h vh W (Th.below hb) t
    have SL : Hid (∀ (L : List Lf) v1 v2 W, IsLfs W v1 L → IsLfs W v2 L → Calls Try.prog 15 #[v1, v2] W fun e w' => e = .returned (.bool true) ∧ Below W.heap.size W w') := fun L v1 v2 W h1 h2 => by have := rsamel_any v1 v2 L L W h1 h2; rw [decide_eq_true rfl] at this; exact this
    have ST : Hid (∀ (L : List (List UInt8)) v1 v2 W, IsTxt W v1 L → IsTxt W v2 L → Calls Try.prog 18 #[v1, v2] W fun e w' => e = .returned (.bool true) ∧ Below W.heap.size W w') := fun L v1 v2 W h1 h2 => by have := same_txt v1 v2 L L W h1 h2; rw [decide_eq_true rfl] at this; exact this
    have bL := lives_len h
    have bK := keys_len h
    have lK : ∀ s ∈ keysL h, s.length ≤ 1125899906842624 := fun s hs => by
      obtain ⟨i, hi, _, e⟩ := (keys_mem h s).1 hs
      have := Gh _ (List.getElem_mem hi)
      rw [ev_get h i hi] at e
      unfold goodE at this
      rw [← e]
      omega
    obtain ⟨LL, hLL⟩ : ∃ y, livesL h = y := ⟨_, rfl⟩
    rw [hLL] at HL RL bL
    obtain ⟨KK, hKK⟩ : ∃ y, keysL h = y := ⟨_, rfl⟩
    rw [hKK] at HK RK bK lK
    obtain ⟨⟨⟨y0, y1, y2, y3⟩, y4⟩, hy⟩ : ∃ y, findP h t = y := ⟨_, rfl⟩
    rw [hy] at HI RI
    simp only at HI RI
    clear hLL hKK hy
    obtain ⟨ah, ch, rfl, ih, jh, kh, HCh⟩ := Th.reads
    go_enter Try.func4, Try.ntmps4
    go_wp2_with fail
    refine (HSh.out _ (Below.refl w.heap.size w)).mono ?_
    rintro e w1 ⟨rfl, b1⟩
    have B1 := bel_trans (Below.refl w.heap.size w) b1
    go_wp2_with fail
    refine (HF.out _ B1).mono ?_
    rintro e w2 ⟨rfl, b2⟩
    have B2 := bel_trans B1 b2
    go_wp2_with fail
    refine (HL.out _ B2).mono ?_
    rintro e w3 hres3
    obtain ⟨u_p, rfl, b3, o_p⟩ := hres3
    have B3 := bel_trans B2 b3
    have T_p := IsRec.own (L := LL) lifV_len (by omega) o_p (by omega)
    obtain ⟨a_p, c_p, rfl, i_p, j_p, _, HC_p⟩ := T_p.some_at
    go_wp2_with fail
    refine (RL.out _ B3).mono ?_
    rintro e w4 hres4
    obtain ⟨u_q, rfl, b4, o_q⟩ := hres4
    have B4 := bel_trans B3 b4
    replace T_p := T_p.below b4
    have T_q := IsRec.own (L := LL) lifV_len (by omega) o_q (by omega)
    obtain ⟨a_q, c_q, rfl, i_q, j_q, _, HC_q⟩ := T_q.some_at
    go_wp2_with fail
    refine (SL.out _ _ _ _ T_p T_q).mono ?_
    rintro e w5 ⟨rfl, b5⟩
    have B5 := bel_trans B4 b5
    replace T_p := T_p.below b5
    replace T_q := T_q.below b5
    go_wp2_with fail
    refine (HK.out _ B5).mono ?_
    rintro e w6 hres6
    obtain ⟨u_r, rfl, b6, o_r⟩ := hres6
    have B6 := bel_trans B5 b6
    replace T_p := T_p.below b6
    replace T_q := T_q.below b6
    have T_r := IsTxt.own o_r (by omega) lK
    obtain ⟨a_r, c_r, rfl, i_r, j_r, _, HC_r⟩ := T_r.some_at
    go_wp2_with fail
    refine (RK.out _ B6).mono ?_
    rintro e w7 hres7
    obtain ⟨u_s, rfl, b7, o_s⟩ := hres7
    have B7 := bel_trans B6 b7
    replace T_p := T_p.below b7
    replace T_q := T_q.below b7
    replace T_r := T_r.below b7
    have T_s := IsTxt.own o_s (by omega) lK
    obtain ⟨a_s, c_s, rfl, i_s, j_s, _, HC_s⟩ := T_s.some_at
    go_wp2_with fail
    refine (ST.out _ _ _ _ T_r T_s).mono ?_
    rintro e w8 ⟨rfl, b8⟩
    have B8 := bel_trans B7 b8
    replace T_p := T_p.below b8
    replace T_q := T_q.below b8
    replace T_r := T_r.below b8
    replace T_s := T_s.below b8
    go_wp2_with fail
    refine (HI.out _ B8).mono ?_
    rintro e w9 ⟨rfl, b9⟩
    have B9 := bel_trans B8 b9
    replace T_p := T_p.below b9
    replace T_q := T_q.below b9
    replace T_r := T_r.below b9
    replace T_s := T_s.below b9
    replace T_p := T_p.below ((Below.refl _ _).alloc (Nat.le_refl _) (.cells #[.int .i64 y0, .int .i64 (y1 : Int), .int .i64 (y2 : Int), .bool y3] 37))
    replace T_q := T_q.below ((Below.refl _ _).alloc (Nat.le_refl _) (.cells #[.int .i64 y0, .int .i64 (y1 : Int), .int .i64 (y2 : Int), .bool y3] 37))
    replace T_r := T_r.below ((Below.refl _ _).alloc (Nat.le_refl _) (.cells #[.int .i64 y0, .int .i64 (y1 : Int), .int .i64 (y2 : Int), .bool y3] 37))
    replace T_s := T_s.below ((Below.refl _ _).alloc (Nat.le_refl _) (.cells #[.int .i64 y0, .int .i64 (y1 : Int), .int .i64 (y2 : Int), .bool y3] 37))
    have X_y := SBox.new w9 37 #[.int .i64 y0, .int .i64 (y1 : Int), .int .i64 (y2 : Int), .bool y3]
    have B9' := B9.alloc B9.size (.cells #[.int .i64 y0, .int .i64 (y1 : Int), .int .i64 (y2 : Int), .bool y3] 37)
    have f_y0_9 := X_y.cell 0 _ rfl
    have f_y1_9 := X_y.cell 1 _ rfl
    have f_y2_9 := X_y.cell 2 _ rfl
    have f_y3_9 := X_y.cell 3 _ rfl
    go_wp2_with fail
    refine (RI.out _ B9').mono ?_
    rintro e w10 ⟨rfl, b10⟩
    have B10 := bel_trans B9' b10
    clear f_y0_9 f_y1_9 f_y2_9 f_y3_9
    replace X_y := X_y.below b10
    replace T_p := T_p.below b10
    replace T_q := T_q.below b10
    replace T_r := T_r.below b10
    replace T_s := T_s.below b10
    replace X_y := X_y.alloc (.cells #[.int .i64 y0, .int .i64 (y1 : Int), .int .i64 (y2 : Int), .bool y3] 37)
    replace T_p := T_p.below ((Below.refl _ _).alloc (Nat.le_refl _) (.cells #[.int .i64 y0, .int .i64 (y1 : Int), .int .i64 (y2 : Int), .bool y3] 37))
    replace T_q := T_q.below ((Below.refl _ _).alloc (Nat.le_refl _) (.cells #[.int .i64 y0, .int .i64 (y1 : Int), .int .i64 (y2 : Int), .bool y3] 37))
    replace T_r := T_r.below ((Below.refl _ _).alloc (Nat.le_refl _) (.cells #[.int .i64 y0, .int .i64 (y1 : Int), .int .i64 (y2 : Int), .bool y3] 37))
    replace T_s := T_s.below ((Below.refl _ _).alloc (Nat.le_refl _) (.cells #[.int .i64 y0, .int .i64 (y1 : Int), .int .i64 (y2 : Int), .bool y3] 37))
    have X_z := SBox.new w10 37 #[.int .i64 y0, .int .i64 (y1 : Int), .int .i64 (y2 : Int), .bool y3]
    have B10' := B10.alloc B10.size (.cells #[.int .i64 y0, .int .i64 (y1 : Int), .int .i64 (y2 : Int), .bool y3] 37)
    have f_y0_10 := X_y.cell 0 _ rfl
    have f_y1_10 := X_y.cell 1 _ rfl
    have f_y2_10 := X_y.cell 2 _ rfl
    have f_y3_10 := X_y.cell 3 _ rfl
    have f_z0_10 := X_z.cell 0 _ rfl
    have f_z1_10 := X_z.cell 1 _ rfl
    have f_z2_10 := X_z.cell 2 _ rfl
    have f_z3_10 := X_z.cell 3 _ rfl
    go_wp2_with fail
    go_ret
    exact ⟨rfl, B10'⟩
  · rw [decide_eq_false h1] at HF
    obtain ⟨ah, ch, rfl, ih, jh, kh, HCh⟩ := Th.reads
    go_enter Try.func4, Try.ntmps4
    go_wp2_with fail
    refine (HSh.out _ (Below.refl w.heap.size w)).mono ?_
    rintro e w1 ⟨rfl, b1⟩
    have B1 := bel_trans (Below.refl w.heap.size w) b1
    go_wp2_with fail
    refine (HF.out _ B1).mono ?_
    rintro e w2 ⟨rfl, b2⟩
    have B2 := bel_trans B1 b2
    go_wp2_with fail
    go_ret
    exact ⟨rfl, B2⟩
end Go.Proofs.Ytpmcmohdhicfcaa
