/-
  The walk of ChainMakes.
-/
import Derived.Test.YtgickejfcmnaiaaDoorZShown4
import Derived.Test.YtgickejfcmnaiaaDoorZR4Head
import Derived.Test.YtgickejfcmnaiaaDoorZR4Links
import Derived.Test.YtgickejfcmnaiaaDoorZR4Same
namespace Go.Proofs.YtgickejfcmnaiaaDoor
set_option maxRecDepth 100000
open Go.RowKit
set_option linter.unusedVariables false
attribute [local go_sem] ba_size
set_option maxHeartbeats 4000000 in
theorem makes4_walk (w : World) (p : List UInt8) (lp : p.length ≤ 140737488351232) (b : List UInt8) (lb : b.length ≤ 140737488351232) (vl : Value) (l : List (List UInt8)) (Tl : IsTxt w vl l) (Bl : ∀ s ∈ l, s.length ≤ 140737488351232) (Nl : l.length ≤ 8796093021952) (hG : G w) :
    Calls Tryd.prog 3 #[.string ⟨p.toArray⟩, .string ⟨b.toArray⟩, vl] w fun e w' => e = .returned (.bool true) ∧ Below w.heap.size w w' := by
  have hg3 := hG.size
  have HSh : Hid (∀ W, Below w.heap.size w W → Calls Tryd.prog 11 #[] W fun e w' => e = .returned (.bool true) ∧ Below W.heap.size W w') := fun W h => shown4_any W (hG.below h hg3)
  have HFl : Hid (∀ W, Below w.heap.size w W → Calls Tryd.prog 12 #[vl] W fun e w' => e = .returned (.bool (few4L l)) ∧ Below W.heap.size W w') := fun W h => few4_any l vl W (Tl.below h)
  have HI : Hid (∀ W, Below w.heap.size w W → Calls Tryd.prog 13 #[.string ⟨p.toArray⟩, .string ⟨b.toArray⟩] W fun e w' => e = .returned (.tuple #[.string ⟨(inputL p b).1.toArray⟩, .int .i64 ((inputL p b).2 : Int)]) ∧ Below W.heap.size W w') := fun W h => pinput_any p b (by omega) (by omega) W
  have RI : Hid (∀ W, Below w.heap.size w W → Calls Tryd.prog 14 #[.string ⟨p.toArray⟩, .string ⟨b.toArray⟩] W fun e w' => e = .returned (.tuple #[.string ⟨(inputL p b).1.toArray⟩, .int .i64 ((inputL p b).2 : Int)]) ∧ Below W.heap.size W w') := fun W h => rinput_any p b (by omega) (by omega) W
  have HX : Hid (∀ W, Below w.heap.size w W → Calls Tryd.prog 15 #[.string ⟨p.toArray⟩, .string ⟨b.toArray⟩] W fun e w' => e = .returned (.tuple #[.string ⟨(nextL sumL p b).1.toArray⟩, .int .i64 ((nextL sumL p b).2 : Int)]) ∧ Below W.heap.size W w') := fun W h => pnext_any p b (by omega) (by omega) W (hG.below h hg3)
  have RX : Hid (∀ W, Below w.heap.size w W → Calls Tryd.prog 16 #[.string ⟨p.toArray⟩, .string ⟨b.toArray⟩] W fun e w' => e = .returned (.tuple #[.string ⟨(nextL sumL p b).1.toArray⟩, .int .i64 ((nextL sumL p b).2 : Int)]) ∧ Below W.heap.size W w') := fun W h => rnext_any p b (by omega) (by omega) W
  have HH : Hid (∀ W, Below w.heap.size w W → Calls Tryd.prog 17 #[vl] W fun e w' => e = .returned (.tuple #[.string ⟨(headL sumL l).1.toArray⟩, .int .i64 ((headL sumL l).2 : Int)]) ∧ Below W.heap.size W w') := fun W h => phead_any l vl W (hG.below h hg3) (Tl.below h)
  have RH : Hid (∀ W, Below w.heap.size w W → Calls Tryd.prog 18 #[vl] W fun e w' => e = .returned (.tuple #[.string ⟨(headL sumL l).1.toArray⟩, .int .i64 ((headL sumL l).2 : Int)]) ∧ Below W.heap.size W w') := fun W h => rhead_any l vl W (Tl.below h)
  have HL : Hid (∀ W, Below w.heap.size w W → Calls Tryd.prog 19 #[vl] W fun e w' => LnRes W (linksL sumL l) e w') := fun W h => plinks_any l vl W (hG.below h hg3) (Tl.below h) (by omega)
  have RL : few4L l = true → Hid (∀ W, Below w.heap.size w W → Calls Tryd.prog 20 #[vl] W fun e w' => LnRes W (linksL sumL l) e w') := fun hf W h => rlinks_any l vl W (Tl.below h) (by have := few4_len hf; omega)
  have hsm := links_bound l
  have hxl := links_len l
  obtain ⟨aa, ca, rfl, _, _, _⟩ := Tl.len
  clear Tl
  cases fl : few4L l with
  | false =>
    rw [fl] at HFl
    clear RL hsm hxl HI RI HX RX HH RH HL
    go_enter Tryd.func3, Tryd.ntmps3
    go_wp2_with fail
    refine (HSh.out w (Below.refl _ _)).mono ?_
    rintro e w1 ⟨rfl, b1⟩
    have B1 := bel_trans (Below.refl _ _) b1
    go_wp2_with fail
    refine (HFl.out w1 B1).mono ?_
    rintro e w2 ⟨rfl, b2⟩
    have B2 := bel_trans B1 b2
    go_wp2_with fail
    go_ret
    exact ⟨rfl, B2⟩
  | true =>
    rw [fl] at HFl
    replace RL := RL fl
    have hl2 := few4_len fl
    obtain ⟨⟨x1, x2⟩, hx⟩ : ∃ z, inputL p b = z := ⟨_, rfl⟩
    obtain ⟨⟨y1, y2⟩, hy⟩ : ∃ z, nextL sumL p b = z := ⟨_, rfl⟩
    obtain ⟨⟨z1, z2⟩, hz⟩ : ∃ z, headL sumL l = z := ⟨_, rfl⟩
    obtain ⟨⟨X, m⟩, hX⟩ : ∃ z, linksL sumL l = z := ⟨_, rfl⟩
    rw [hx] at HI RI
    rw [hy] at HX RX
    rw [hz] at HH RH
    rw [hX] at HL RL hsm hxl
    have hLn : X.length ≤ 140737488351232 := by have : X.length ≤ l.length := hxl; omega
    have KN : Hid (∀ (W W0 : World) r, W.ownsRow W0.heap.size 48 2 r X.length (lnkV X) → IsLnk W r X) := fun W W0 r ho => IsLnk.own ho hLn (fun t ht => by have : t.1.length ≤ 32 ∧ t.2.length ≤ 65535 := hsm t ht; omega)
    have SM : Hid (∀ W r1 r2, IsLnk W r1 X → IsLnk W r2 X → Calls Tryd.prog 21 #[r1, r2] W fun e w' => e = .returned (.bool true) ∧ Below W.heap.size W w') := fun W r1 r2 h1 h2 => by
      have := lsame_any r1 r2 X X W h1 h2
      rw [decide_eq_true rfl] at this
      exact this
    clear hx hy hz hX hsm hxl hLn fl
    go_enter Tryd.func3, Tryd.ntmps3
    go_wp2_with fail
    refine (HSh.out w (Below.refl _ _)).mono ?_
    rintro e w1 ⟨rfl, b1⟩
    have B1 := bel_trans (Below.refl _ _) b1
    go_wp2_with fail
    refine (HFl.out w1 B1).mono ?_
    rintro e w2 ⟨rfl, b2⟩
    have B2 := bel_trans B1 b2
    go_wp2_with fail
    refine (HI.out w2 B2).mono ?_
    rintro e w3 ⟨rfl, b3⟩
    have B3 := bel_trans B2 b3
    go_wp2_with fail
    refine (RI.out w3 B3).mono ?_
    rintro e w4 ⟨rfl, b4⟩
    have B4 := bel_trans B3 b4
    go_wp2_with fail
    refine (HX.out w4 B4).mono ?_
    rintro e w5 ⟨rfl, b5⟩
    have B5 := bel_trans B4 b5
    go_wp2_with fail
    refine (RX.out w5 B5).mono ?_
    rintro e w6 ⟨rfl, b6⟩
    have B6 := bel_trans B5 b6
    go_wp2_with fail
    refine (HH.out w6 B6).mono ?_
    rintro e w7 ⟨rfl, b7⟩
    have B7 := bel_trans B6 b7
    go_wp2_with fail
    refine (RH.out w7 B7).mono ?_
    rintro e w8 ⟨rfl, b8⟩
    have B8 := bel_trans B7 b8
    go_wp2_with fail
    refine (HL.out w8 B8).mono ?_
    rintro e w9 hres9
    obtain ⟨r1, rfl, b9, own1⟩ := hres9
    have B9 := bel_trans B8 b9
    have K1 := KN.out w9 _ _ own1
    go_wp2_with fail
    refine (RL.out w9 B9).mono ?_
    rintro e w10 hres10
    obtain ⟨r2, rfl, b10, own2⟩ := hres10
    have B10 := bel_trans B9 b10
    have K2 := KN.out w10 _ _ own2
    have K1b := K1.below b10
    clear K1 own1 own2
    go_wp2_with fail
    refine (SM.out w10 _ _ K1b K2).mono ?_
    rintro e w11 ⟨rfl, b11⟩
    have B11 := bel_trans B10 b11
    go_wp2_with fail
    go_ret
    exact ⟨rfl, B11⟩
end Go.Proofs.YtgickejfcmnaiaaDoor
