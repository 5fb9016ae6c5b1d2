/-
  The walk of HistoryWrites.
-/
import Derived.Test.YtpmcmohdhicfcaaZShown8
import Derived.Test.YtpmcmohdhicfcaaZR8Vers
import Derived.Test.YtpmcmohdhicfcaaZR8Ints
import Derived.Test.YtpmcmohdhicfcaaGE
import Derived.Deep.RegionHeld3
import Derived.BigQuiet
import Derived.Deep.QuietTactic
namespace Go.Proofs.Ytpmcmohdhicfcaa
set_option maxRecDepth 100000
open Go.RowKit
set_option linter.unusedVariables false
attribute [local go_sem] ba_size ba_append ba_get ba_extract
set_option maxHeartbeats 4000000 in
theorem writes8_walk (C : P8C) (w : World) (vh : Value) (h : List Ev) (Th : IsEvs w vh h) (Gh : ∀ x ∈ h, goodE x) (key : List UInt8) (lkey : key.length ≤ 140737488351232) (val : List UInt8) (lval : val.length ≤ 140737488351232) (t : Int) (gt : goodI t) (before : Int) (gbefore : goodI before) :
    Calls Try.prog 5 #[.agg #[vh, .string ⟨key.toArray⟩, .string ⟨val.toArray⟩, .int .i64 t, .int .i64 before]] w fun e w' => e = .returned (.bool true) ∧ Below w.heap.size w w' := by
  have HSh : Hid (∀ W, Below w.heap.size w W → Calls Try.prog 11 #[] W fun e w' => e = .returned (.bool true) ∧ Below W.heap.size W w') := fun W h => shown8_any C W
  have HF : Hid (∀ W, Below w.heap.size w W → Calls Try.prog 12 #[vh] W fun e w' => e = .returned (.bool (decide (h.length ≤ 300))) ∧ Below W.heap.size W w') := fun W hb => few8_any vh h W (Th.below hb)
  by_cases h1 : h.length ≤ 300
  · rw [decide_eq_true h1] at HF
    have HV : Hid (∀ W, Below w.heap.size w W → Calls Try.prog 24 #[vh, .string ⟨key.toArray⟩] W fun e w' => InRow W ((versL h key).map Int.ofNat) e w') := fun W hb => C.versions h vh W key (Th.below hb) Gh h1 lkey
    have RV : Hid (∀ W, Below w.heap.size w W → Calls Try.prog 25 #[vh, .string ⟨key.toArray⟩] W fun e w' => InRow W ((versL h key).map Int.ofNat) e w') := fun W hb => rvers_any h vh W (Th.below hb) h1 key
    have HW : Hid (∀ W, Below w.heap.size w W → Calls Try.prog 26 #[vh, .string ⟨key.toArray⟩, .string ⟨val.toArray⟩] W fun e w' => e = .returned (.int .i64 (oI (writerL h key val))) ∧ Below W.heap.size W w') := fun W hb => C.writer h vh W key val (Th.below hb) Gh h1 lkey lval
    have RW : Hid (∀ W, Below w.heap.size w W → Calls Try.prog 27 #[vh, .string ⟨key.toArray⟩, .string ⟨val.toArray⟩] W fun e w' => e = .returned (.int .i64 (oI (writerL h key val))) ∧ Below W.heap.size W w') := fun W hb => rwriter_any h vh W (Th.below hb) key val
    have HA : Hid (∀ W, Below w.heap.size w W → Calls Try.prog 28 #[vh, .int .i64 t, .string ⟨key.toArray⟩, .int .i64 before] W fun e w' => e = .returned (.int .i64 (oI (lastL h t key before))) ∧ Below W.heap.size W w') := fun W hb => C.last h vh W t key before (Th.below hb) Gh h1 gt lkey gbefore
    have RA : Hid (∀ W, Below w.heap.size w W → Calls Try.prog 29 #[vh, .int .i64 t, .string ⟨key.toArray⟩, .int .i64 before] W fun e w' => e = .returned (.int .i64 (oI (lastL h t key before))) ∧ Below W.heap.size W w') := fun W hb => rlast_any h vh W (Th.below hb) t key before
    have SI : Hid (∀ (L : List Int) v1 v2 W, IsInts W v1 L → IsInts W v2 L → Calls Try.prog 23 #[v1, v2] W fun e w' => e = .returned (.bool true) ∧ Below W.heap.size W w') := fun L v1 v2 W h1 h2 => by have := rints_any v1 v2 L L W h1 h2; rw [decide_eq_true rfl] at this; exact this
    have bV := vers_len h key
    obtain ⟨VV, hVV⟩ : ∃ y, (versL h key).map Int.ofNat = y := ⟨_, rfl⟩
    have bW : VV.length ≤ h.length := by rw [← hVV, List.length_map]; exact bV
    rw [hVV] at HV RV
    obtain ⟨p1, hp1⟩ : ∃ y, oI (writerL h key val) = y := ⟨_, rfl⟩
    rw [hp1] at HW RW
    obtain ⟨p2, hp2⟩ : ∃ y, oI (lastL h t key before) = y := ⟨_, rfl⟩
    rw [hp2] at HA RA
    clear hVV hp1 hp2 bV
    obtain ⟨ah, ch, rfl, ih, jh, kh, HCh⟩ := Th.reads
    have XW := SBox.new w 42 #[.slice ah h.length ch, .string ⟨key.toArray⟩, .string ⟨val.toArray⟩, .int .i64 t, .int .i64 before]
    have B_w := (Below.refl w.heap.size w).alloc (Nat.le_refl _) (.cells #[.slice ah h.length ch, .string ⟨key.toArray⟩, .string ⟨val.toArray⟩, .int .i64 t, .int .i64 before] 42)
    have n0 := XW.cell 0 _ rfl
    have n1 := XW.cell 1 _ rfl
    have n2 := XW.cell 2 _ rfl
    have n3 := XW.cell 3 _ rfl
    have n4 := XW.cell 4 _ rfl
    go_enter Try.func5, Try.ntmps5
    go_wp2_with fail
    refine (HSh.out _ B_w).mono ?_
    rintro e w1 ⟨rfl, b1⟩
    have B1 := bel_trans B_w b1
    clear n0 n1 n2 n3 n4 XW
    go_wp2_with fail
    refine (HF.out _ B1).mono ?_
    rintro e w2 ⟨rfl, b2⟩
    have B2 := bel_trans B1 b2
    go_wp2_with fail
    refine (HV.out _ B2).mono ?_
    rintro e w3 hres3
    obtain ⟨u_p, rfl, b3, o_p⟩ := hres3
    have B3 := bel_trans B2 b3
    have T_p := IsRec.own (L := VV) intV_len (by omega) o_p (by omega)
    obtain ⟨a_p, c_p, rfl, i_p, j_p, _, HC_p⟩ := T_p.some_at
    go_wp2_with fail
    refine (RV.out _ B3).mono ?_
    rintro e w4 hres4
    obtain ⟨u_q, rfl, b4, o_q⟩ := hres4
    have B4 := bel_trans B3 b4
    replace T_p := T_p.below b4
    have T_q := IsRec.own (L := VV) intV_len (by omega) o_q (by omega)
    obtain ⟨a_q, c_q, rfl, i_q, j_q, _, HC_q⟩ := T_q.some_at
    go_wp2_with fail
    refine (SI.out _ _ _ _ T_p T_q).mono ?_
    rintro e w5 ⟨rfl, b5⟩
    have B5 := bel_trans B4 b5
    replace T_p := T_p.below b5
    replace T_q := T_q.below b5
    go_wp2_with fail
    refine (HW.out _ B5).mono ?_
    rintro e w6 ⟨rfl, b6⟩
    have B6 := bel_trans B5 b6
    replace T_p := T_p.below b6
    replace T_q := T_q.below b6
    go_wp2_with fail
    refine (RW.out _ B6).mono ?_
    rintro e w7 ⟨rfl, b7⟩
    have B7 := bel_trans B6 b7
    replace T_p := T_p.below b7
    replace T_q := T_q.below b7
    go_wp2_with fail
    refine (HA.out _ B7).mono ?_
    rintro e w8 ⟨rfl, b8⟩
    have B8 := bel_trans B7 b8
    replace T_p := T_p.below b8
    replace T_q := T_q.below b8
    go_wp2_with fail
    refine (RA.out _ B8).mono ?_
    rintro e w9 ⟨rfl, b9⟩
    have B9 := bel_trans B8 b9
    replace T_p := T_p.below b9
    replace T_q := T_q.below b9
    go_wp2_with fail
    go_ret
    exact ⟨rfl, B9⟩
  · rw [decide_eq_false h1] at HF
    obtain ⟨ah, ch, rfl, ih, jh, kh, HCh⟩ := Th.reads
    have XW := SBox.new w 42 #[.slice ah h.length ch, .string ⟨key.toArray⟩, .string ⟨val.toArray⟩, .int .i64 t, .int .i64 before]
    have B_w := (Below.refl w.heap.size w).alloc (Nat.le_refl _) (.cells #[.slice ah h.length ch, .string ⟨key.toArray⟩, .string ⟨val.toArray⟩, .int .i64 t, .int .i64 before] 42)
    have n0 := XW.cell 0 _ rfl
    have n1 := XW.cell 1 _ rfl
    have n2 := XW.cell 2 _ rfl
    have n3 := XW.cell 3 _ rfl
    have n4 := XW.cell 4 _ rfl
    go_enter Try.func5, Try.ntmps5
    go_wp2_with fail
    refine (HSh.out _ B_w).mono ?_
    rintro e w1 ⟨rfl, b1⟩
    have B1 := bel_trans B_w b1
    clear n0 n1 n2 n3 n4 XW
    go_wp2_with fail
    refine (HF.out _ B1).mono ?_
    rintro e w2 ⟨rfl, b2⟩
    have B2 := bel_trans B1 b2
    go_wp2_with fail
    go_ret
    exact ⟨rfl, B2⟩
end Go.Proofs.Ytpmcmohdhicfcaa
