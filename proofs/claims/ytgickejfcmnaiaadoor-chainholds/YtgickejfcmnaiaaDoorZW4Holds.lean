/-
  The walk of ChainHolds.
-/
import Derived.Test.YtgickejfcmnaiaaDoorZShown4
import Derived.Test.YtgickejfcmnaiaaDoorZP4Check
namespace Go.Proofs.YtgickejfcmnaiaaDoor
set_option maxRecDepth 100000
open Go.RowKit
set_option linter.unusedVariables false
attribute [local go_sem] ba_size
set_option maxHeartbeats 4000000 in
theorem holds4_walk (w : World) (vl : Value) (l : List (List UInt8)) (Tl : IsTxt w vl l) (Bl : ∀ s ∈ l, s.length ≤ 140737488351232) (Nl : l.length ≤ 8796093021952) (o : List UInt8) (lo : o.length ≤ 140737488351232) (hG : G w) :
    Calls Tryd.prog 5 #[vl, .string ⟨o.toArray⟩] w fun e w' => e = .returned (.bool true) ∧ Below w.heap.size w w' := by
  have hg3 := hG.size
  have HSh : Hid (∀ W, Below w.heap.size w W → Calls Tryd.prog 11 #[] W fun e w' => e = .returned (.bool true) ∧ Below W.heap.size W w') := fun W h => shown4_any W (hG.below h hg3)
  have HFl : Hid (∀ W, Below w.heap.size w W → Calls Tryd.prog 12 #[vl] W fun e w' => e = .returned (.bool (few4L l)) ∧ Below W.heap.size W w') := fun W h => few4_any l vl W (Tl.below h)
  have HH : Hid (∀ W, Below w.heap.size w W → Calls Tryd.prog 17 #[vl] W fun e w' => e = .returned (.tuple #[.string ⟨(headL sumL l).1.toArray⟩, .int .i64 ((headL sumL l).2 : Int)]) ∧ Below W.heap.size W w') := fun W h => phead_any l vl W (hG.below h hg3) (Tl.below h)
  have HL : Hid (∀ W, Below w.heap.size w W → Calls Tryd.prog 19 #[vl] W fun e w' => LnRes W (linksL sumL l) e w') := fun W h => plinks_any l vl W (hG.below h hg3) (Tl.below h) (by omega)
  rw [headL_R] at HH
  have hck := fun o h e => ck_links sumL l [] h o e
  have hlk : ∀ h, headF sumL [] l = some h → linksL sumL l = (linksF sumL [] l, 0) := fun h e => by unfold linksL; rw [e]
  have hsm := links_bound l
  have hxl := linksF_len sumL l []
  obtain ⟨aa, ca, rfl, _, _, _⟩ := Tl.len
  clear Tl
  cases fl : few4L l with
  | false =>
    rw [fl] at HFl
    obtain ⟨R, hR⟩ : ∃ R, headR (headF sumL [] l) = R := ⟨_, rfl⟩
    rw [hR] at HH
    clear hR HL hck hlk hsm hxl
    go_enter Tryd.func5, Tryd.ntmps5
    go_wp2_with fail
    refine (HSh.out w (Below.refl _ _)).mono ?_
    rintro e w1 ⟨rfl, b1⟩
    have B1 := bel_trans (Below.refl _ _) b1
    go_wp2_with fail
    refine (HFl.out w1 B1).mono ?_
    rintro e w2 ⟨rfl, b2⟩
    have B2 := bel_trans B1 b2
    go_wp2_with fail
    refine (HH.out w2 B2).mono ?_
    rintro e w3 ⟨rfl, b3⟩
    have B3 := bel_trans B2 b3
    go_wp2_with fail
    go_ret
    exact ⟨rfl, B3⟩
  | true =>
    rw [fl] at HFl
    cases hd : headF sumL [] l with
    | none =>
      rw [hd] at HH
      change Hid (∀ W, Below w.heap.size w W → Calls _ _ _ W fun e w' => e = .returned (.tuple #[.string ⟨#[]⟩, .int .i64 4]) ∧ Below W.heap.size W w') at HH
      clear HL hck hlk hsm hxl fl hd
      go_enter Tryd.func5, Tryd.ntmps5
      go_wp2_with fail
      refine (HSh.out w (Below.refl _ _)).mono ?_
      rintro e w1 ⟨rfl, b1⟩
      have B1 := bel_trans (Below.refl _ _) b1
      go_wp2_with fail
      refine (HFl.out w1 B1).mono ?_
      rintro e w2 ⟨rfl, b2⟩
      have B2 := bel_trans B1 b2
      go_wp2_with fail
      refine (HH.out w2 B2).mono ?_
      rintro e w3 ⟨rfl, b3⟩
      have B3 := bel_trans B2 b3
      go_wp2_with fail
      go_ret
      exact ⟨rfl, B3⟩
    | some h =>
      rw [hd] at HH
      change Hid (∀ W, Below w.heap.size w W → Calls _ _ _ W fun e w' => e = .returned (.tuple #[.string ⟨h.toArray⟩, .int .i64 0]) ∧ Below W.heap.size W w') at HH
      have hck1 := hck h h hd
      have hck2 := hck o h hd
      rw [hlk h hd] at HL hsm
      rw [if_pos rfl] at hck1
      obtain ⟨X, hX⟩ : ∃ X, linksF sumL [] l = X := ⟨_, rfl⟩
      rw [hX] at HL hsm hck1 hck2 hxl
      have hLn : X.length ≤ 140737488351232 := by omega
      have CK1 : Hid (∀ W r, Below w.heap.size w W → IsLnk W r X → Calls Tryd.prog 24 #[r, .string ⟨h.toArray⟩] W fun e w' => e = .returned (.int .i64 0) ∧ Below W.heap.size W w') := fun W r hb hi => by
        have := pcheck_any X r h W (hG.below hb hg3) hi
        unfold ckL at this
        rw [hck1] at this
        exact this
      have KN : Hid (∀ (W W0 : World) r, W.ownsRow W0.heap.size 48 2 r X.length (lnkV X) → IsLnk W r X) := fun W W0 r ho => IsLnk.own ho hLn (fun t ht => by have := hsm t ht; omega)
      have HXL : Hid (X.length = l.length) := hxl
      have j0 : ((l.length : Int) == (l.length : Int)) = true := beq_self_eq_true _
      by_cases ho : o = h
      · have e1 : (o == h) = true := by rw [ho]; exact beq_self_eq_true h
        clear hck hck1 hck2 hlk hsm hxl hX hd fl hLn ho
        go_enter Tryd.func5, Tryd.ntmps5
        go_wp2_with fail
        refine (HSh.out w (Below.refl _ _)).mono ?_
        rintro e w1 ⟨rfl, b1⟩
        have B1 := bel_trans (Below.refl _ _) b1
        go_wp2_with fail
        refine (HFl.out w1 B1).mono ?_
        rintro e w2 ⟨rfl, b2⟩
        have B2 := bel_trans B1 b2
        go_wp2_with fail
        refine (HH.out w2 B2).mono ?_
        rintro e w3 ⟨rfl, b3⟩
        have B3 := bel_trans B2 b3
        go_wp2_with fail
        refine (HL.out w3 B3).mono ?_
        rintro e w4 hres4
        obtain ⟨r1, rfl, b4, own1⟩ := hres4
        have B4 := bel_trans B3 b4
        have K1 := KN.out w4 _ _ own1
        obtain ⟨ka, kc, rfl, hk1, hk2, hk3, _⟩ := K1.some_at
        simp only [HXL.out] at K1 ⊢
        have HK1 : Hid (IsLnk w4 (.slice ka l.length kc) X) := K1
        clear K1 own1
        go_wp2_with fail
        refine (CK1.out w4 _ B4 HK1.out).mono ?_
        rintro e w5 ⟨rfl, b5⟩
        have B5 := bel_trans B4 b5
        go_wp2_with fail
        go_ret
        exact ⟨rfl, B5⟩
      · have e1 : (o == h) = false := beq_eq_false_iff_ne.2 ho
        rw [if_neg (fun e => ho e.symm)] at hck2
        have CK2 : Hid (∀ W r, Below w.heap.size w W → IsLnk W r X → Calls Tryd.prog 24 #[r, .string ⟨o.toArray⟩] W fun e w' => e = .returned (.int .i64 13) ∧ Below W.heap.size W w') := fun W r hb hi => by
          have := pcheck_any X r o W (hG.below hb hg3) hi
          unfold ckL at this
          rw [hck2] at this
          exact this
        clear hck hck1 hck2 hlk hsm hxl hX hd fl hLn ho
        go_enter Tryd.func5, Tryd.ntmps5
        go_wp2_with fail
        refine (HSh.out w (Below.refl _ _)).mono ?_
        rintro e w1 ⟨rfl, b1⟩
        have B1 := bel_trans (Below.refl _ _) b1
        go_wp2_with fail
        refine (HFl.out w1 B1).mono ?_
        rintro e w2 ⟨rfl, b2⟩
        have B2 := bel_trans B1 b2
        go_wp2_with fail
        refine (HH.out w2 B2).mono ?_
        rintro e w3 ⟨rfl, b3⟩
        have B3 := bel_trans B2 b3
        go_wp2_with fail
        refine (HL.out w3 B3).mono ?_
        rintro e w4 hres4
        obtain ⟨r1, rfl, b4, own1⟩ := hres4
        have B4 := bel_trans B3 b4
        have K1 := KN.out w4 _ _ own1
        obtain ⟨ka, kc, rfl, hk1, hk2, hk3, _⟩ := K1.some_at
        simp only [HXL.out] at K1 ⊢
        have HK1 : Hid (IsLnk w4 (.slice ka l.length kc) X) := K1
        clear K1 own1
        go_wp2_with fail
        refine (CK1.out w4 _ B4 HK1.out).mono ?_
        rintro e w5 ⟨rfl, b5⟩
        have B5 := bel_trans B4 b5
        go_wp2_with fail
        refine (CK2.out w5 _ B5 (HK1.out.below b5)).mono ?_
        rintro e w6 ⟨rfl, b6⟩
        have B6 := bel_trans B5 b6
        go_wp2_with fail
        go_ret
        exact ⟨rfl, B6⟩
end Go.Proofs.YtgickejfcmnaiaaDoor
