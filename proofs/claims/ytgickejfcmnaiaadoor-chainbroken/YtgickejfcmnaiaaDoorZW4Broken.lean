/-
  The walk of ChainBroken.
-/
import Derived.Test.YtgickejfcmnaiaaDoorZBroke4
import Derived.Test.YtgickejfcmnaiaaDoorZP4Check
namespace Go.Proofs.YtgickejfcmnaiaaDoor
set_option maxRecDepth 100000
open Go.RowKit
set_option linter.unusedVariables false
attribute [local go_sem] ba_size
set_option maxHeartbeats 4000000 in
theorem broken4_walk (w : World) (vl : Value) (l : List (List UInt8)) (Tl : IsTxt w vl l) (Bl : ∀ s ∈ l, s.length ≤ 140737488351232) (Nl : l.length ≤ 8796093021952) (i : Int) (q : List UInt8) (lq : q.length ≤ 140737488351232) (hG : G w) :
    Calls Tryd.prog 8 #[vl, .int .i64 i, .string ⟨q.toArray⟩] w fun e w' => e = .returned (.bool true) ∧ Below w.heap.size w w' := by
  have hg3 := hG.size
  have HSh : Hid (∀ W, Below w.heap.size w W → Calls Tryd.prog 11 #[] W fun e w' => e = .returned (.bool true) ∧ Below W.heap.size W w') := fun W h => shown4_any W (hG.below h hg3)
  have HFl : Hid (∀ W, Below w.heap.size w W → Calls Tryd.prog 12 #[vl] W fun e w' => e = .returned (.bool (few4L l)) ∧ Below W.heap.size W w') := fun W h => few4_any l vl W (Tl.below h)
  have HH : Hid (∀ W, Below w.heap.size w W → Calls Tryd.prog 17 #[vl] W fun e w' => e = .returned (.tuple #[.string ⟨(headL sumL l).1.toArray⟩, .int .i64 ((headL sumL l).2 : Int)]) ∧ Below W.heap.size W w') := fun W h => phead_any l vl W (hG.below h hg3) (Tl.below h)
  have HL : Hid (∀ W, Below w.heap.size w W → Calls Tryd.prog 19 #[vl] W fun e w' => LnRes W (linksL sumL l) e w') := fun W h => plinks_any l vl W (hG.below h hg3) (Tl.below h) (by omega)
  obtain ⟨i0', hi', hz0, hz1, hz2⟩ := info_parts lnk_info
  rw [headL_R] at HH
  have hbr := fun j h q b e hi r hr => ck_broken sumL l j [] h h q b e hi r hr
  have hlk : ∀ h, headF sumL [] l = some h → linksL sumL l = (linksF sumL [] l, 0) := fun h e => by unfold linksL; rw [e]
  have hlk0 : headF sumL [] l = none → linksL sumL l = ([], 4) := fun e => by unfold linksL; rw [e]
  have hsm := links_bound l
  have hxl := linksF_len sumL l []
  obtain ⟨aa, ca, rfl, _, _, _⟩ := Tl.len
  clear Tl
  cases fl : few4L l with
  | false =>
    rw [fl] at HFl
    obtain ⟨R, hR⟩ : ∃ R, headR (headF sumL [] l) = R := ⟨_, rfl⟩
    obtain ⟨⟨X1, m1⟩, hX1⟩ : ∃ z, linksL sumL l = z := ⟨_, rfl⟩
    rw [hR] at HH
    rw [hX1] at HL
    clear hR hX1 fl hbr hlk hlk0 hsm hxl
    go_enter Tryd.func8, Tryd.ntmps8
    go_wp2_with fail
    refine (HSh.out w (Below.refl _ _)).mono ?_
    rintro e w1 ⟨rfl, b1⟩
    have B1 := bel_trans (Below.refl _ _) b1
    go_wp2_with fail
    refine (HFl.out w1 B1).mono ?_
    rintro e w2 ⟨rfl, b2⟩
    have B2 := bel_trans B1 b2
    go_wp2_with fail
    refine (HH.out w2 B2).mono ?_
    rintro e w3 ⟨rfl, b3⟩
    have B3 := bel_trans B2 b3
    go_wp2_with fail
    refine (HL.out w3 B3).mono ?_
    rintro e w4 hres4
    obtain ⟨r1, rfl, b4, own1⟩ := hres4
    have B4 := bel_trans B3 b4
    go_wp2_with fail
    go_ret
    exact ⟨rfl, B4⟩
  | true =>
    rw [fl] at HFl
    have hl2 := few4_len fl
    cases hd : headF sumL [] l with
    | none =>
      rw [hd] at HH
      change Hid (∀ W, Below w.heap.size w W → Calls _ _ _ W fun e w' => e = .returned (.tuple #[.string ⟨#[]⟩, .int .i64 4]) ∧ Below W.heap.size W w') at HH
      rw [hlk0 hd] at HL
      clear hd fl hbr hlk hlk0 hsm hxl
      go_enter Tryd.func8, Tryd.ntmps8
      go_wp2_with fail
      refine (HSh.out w (Below.refl _ _)).mono ?_
      rintro e w1 ⟨rfl, b1⟩
      have B1 := bel_trans (Below.refl _ _) b1
      go_wp2_with fail
      refine (HFl.out w1 B1).mono ?_
      rintro e w2 ⟨rfl, b2⟩
      have B2 := bel_trans B1 b2
      go_wp2_with fail
      refine (HH.out w2 B2).mono ?_
      rintro e w3 ⟨rfl, b3⟩
      have B3 := bel_trans B2 b3
      go_wp2_with fail
      refine (HL.out w3 B3).mono ?_
      rintro e w4 hres4
      obtain ⟨r1, rfl, b4, own1⟩ := hres4
      have B4 := bel_trans B3 b4
      go_wp2_with fail
      go_ret
      exact ⟨rfl, B4⟩
    | some h =>
      rw [hd] at HH
      change Hid (∀ W, Below w.heap.size w W → Calls _ _ _ W fun e w' => e = .returned (.tuple #[.string ⟨h.toArray⟩, .int .i64 0]) ∧ Below W.heap.size W w') at HH
      rw [hlk h hd] at HL hsm
      replace hbr := fun j q b hi r hr => hbr j h q b hd hi r hr
      obtain ⟨X, hX⟩ : ∃ X, linksF sumL [] l = X := ⟨_, rfl⟩
      rw [hX] at HL hsm hxl
      simp only [hX] at hbr
      obtain ⟨n, hn⟩ : ∃ n, X.length = n := ⟨_, rfl⟩
      have HXL : Hid (X.length = n) := hn
      have hn2 : n ≤ 200 := by omega
      have KN : Hid (∀ (W W0 : World) r, W.ownsRow W0.heap.size 48 2 r X.length (lnkV X) → IsLnk W r X) := fun W W0 r ho => IsLnk.own ho (by omega) (fun t ht => by have : t.1.length ≤ 32 ∧ t.2.length ≤ 65535 := hsm t ht; omega)
      have hsm' : Hid (∀ t ∈ X, t.1.length ≤ 32 ∧ t.2.length ≤ 65535) := hsm
      clear hd fl hlk hlk0 hsm hX hxl hn
      by_cases h0 : i < 0
      · clear hbr
        go_enter Tryd.func8, Tryd.ntmps8
        go_wp2_with fail
        refine (HSh.out w (Below.refl _ _)).mono ?_
        rintro e w1 ⟨rfl, b1⟩
        have B1 := bel_trans (Below.refl _ _) b1
        go_wp2_with fail
        refine (HFl.out w1 B1).mono ?_
        rintro e w2 ⟨rfl, b2⟩
        have B2 := bel_trans B1 b2
        go_wp2_with fail
        refine (HH.out w2 B2).mono ?_
        rintro e w3 ⟨rfl, b3⟩
        have B3 := bel_trans B2 b3
        go_wp2_with fail
        refine (HL.out w3 B3).mono ?_
        rintro e w4 hres4
        obtain ⟨r1, rfl, b4, own1⟩ := hres4
        have B4 := bel_trans B3 b4
        have K0 := KN.out w4 _ _ own1
        obtain ⟨ra, rc, rfl, ra1, ra2, ra3, HCK⟩ := K0.some_at
        simp only [HXL.out] at ra1 ra3 ⊢
        clear K0
        go_wp2_with fail
        go_ret
        exact ⟨rfl, B4⟩
      · by_cases h1 : (n : Int) ≤ i
        · have j1 : ¬ i < 0 := h0
          clear hbr
          go_enter Tryd.func8, Tryd.ntmps8
          go_wp2_with fail
          refine (HSh.out w (Below.refl _ _)).mono ?_
          rintro e w1 ⟨rfl, b1⟩
          have B1 := bel_trans (Below.refl _ _) b1
          go_wp2_with fail
          refine (HFl.out w1 B1).mono ?_
          rintro e w2 ⟨rfl, b2⟩
          have B2 := bel_trans B1 b2
          go_wp2_with fail
          refine (HH.out w2 B2).mono ?_
          rintro e w3 ⟨rfl, b3⟩
          have B3 := bel_trans B2 b3
          go_wp2_with fail
          refine (HL.out w3 B3).mono ?_
          rintro e w4 hres4
          obtain ⟨r1, rfl, b4, own1⟩ := hres4
          have B4 := bel_trans B3 b4
          have K0 := KN.out w4 _ _ own1
          obtain ⟨ra, rc, rfl, ra1, ra2, ra3, HCK⟩ := K0.some_at
          simp only [HXL.out] at ra1 ra3 ⊢
          clear K0
          go_wp2_with fail
          go_ret
          exact ⟨rfl, B4⟩
        · obtain ⟨k, rfl⟩ : ∃ k : Nat, i = (k : Int) := ⟨i.toNat, by omega⟩
          have hk : k < n := by omega
          have hkX : k < X.length := by rw [HXL.out]; exact hk
          have hbk := hbr k X[k].1 X[k].2 (by rw [List.getElem?_eq_getElem hkX]) q
          obtain ⟨x1, hx1⟩ : ∃ x, X[k].1 = x := ⟨_, rfl⟩
          have HX1 : Hid (∀ h', (X[k]'h').1 = x1) := fun _ => hx1
          rw [hx1] at hbk
          clear hbr hx1 h0 h1
          by_cases hq : x1 = q
          · have exq : (x1 == q) = true := by rw [hq]; exact beq_self_eq_true q
            clear hbk hq
            go_enter Tryd.func8, Tryd.ntmps8
            go_wp2_with fail
            refine (HSh.out w (Below.refl _ _)).mono ?_
            rintro e w1 ⟨rfl, b1⟩
            have B1 := bel_trans (Below.refl _ _) b1
            go_wp2_with fail
            refine (HFl.out w1 B1).mono ?_
            rintro e w2 ⟨rfl, b2⟩
            have B2 := bel_trans B1 b2
            go_wp2_with fail
            refine (HH.out w2 B2).mono ?_
            rintro e w3 ⟨rfl, b3⟩
            have B3 := bel_trans B2 b3
            go_wp2_with fail
            refine (HL.out w3 B3).mono ?_
            rintro e w4 hres4
            obtain ⟨r1, rfl, b4, own1⟩ := hres4
            have B4 := bel_trans B3 b4
            have K0 := KN.out w4 _ _ own1
            obtain ⟨ra, rc, rfl, ra1, ra2, ra3, HCK⟩ := K0.some_at
            simp only [HXL.out] at ra1 ra3 ⊢
            clear K0
            obtain ⟨gb, go, rfl, hgb, g1, g2⟩ := HCK.out k hkX
            rw [HX1.out] at g1
            go_wp2_with fail
            go_ret
            exact ⟨rfl, B4⟩
          · have exq : (x1 == q) = false := beq_eq_false_iff_ne.2 hq
            have hbk' := hbk (fun e => hq e.symm)
            have CK : Hid (∀ W r, Below w.heap.size w W → IsLnk W r (X.set k (q, X[k].2)) → Calls Tryd.prog 24 #[r, .string ⟨h.toArray⟩] W fun e w' => e = .returned (.int .i64 15) ∧ Below W.heap.size W w') := fun W r hb hi => by
              have := pcheck_any _ r h W (hG.below hb hg3) hi
              unfold ckL at this
              rw [hbk'] at this
              exact this
            have KS : Hid (∀ (W : World) B r m, W.ownsRow B 48 2 r m ((lnkV X).set (k * 2) (.string ⟨q.toArray⟩)) → m ≤ 1000 → IsLnk W r (X.set k (q, X[k].2))) := fun W B r m ho hm => by
              rw [lnkV_set X k hkX q] at ho
              refine IsLnk.own ho (by omega) (fun t ht => ?_)
              have hmm := List.mem_or_eq_of_mem_set ht
              rcases hmm with hmm | rfl
              · have := hsm'.out t hmm; omega
              · have := hsm'.out _ (List.getElem_mem hkX); simp only; omega
            clear hbk hbk' hq
            go_enter Tryd.func8, Tryd.ntmps8
            go_wp2_with fail
            refine (HSh.out w (Below.refl _ _)).mono ?_
            rintro e w1 ⟨rfl, b1⟩
            have B1 := bel_trans (Below.refl _ _) b1
            go_wp2_with fail
            refine (HFl.out w1 B1).mono ?_
            rintro e w2 ⟨rfl, b2⟩
            have B2 := bel_trans B1 b2
            go_wp2_with fail
            refine (HH.out w2 B2).mono ?_
            rintro e w3 ⟨rfl, b3⟩
            have B3 := bel_trans B2 b3
            go_wp2_with fail
            refine (HL.out w3 B3).mono ?_
            rintro e w4 hres4
            obtain ⟨r1, rfl, b4, own1⟩ := hres4
            have B4 := bel_trans B3 b4
            have K0 := KN.out w4 _ _ own1
            obtain ⟨ra, rc, rfl, ra1, ra2, ra3, HCK⟩ := K0.some_at
            simp only [HXL.out] at ra1 ra3 ⊢
            clear K0
            obtain ⟨gb, go, rfl, hgb, g1, g2⟩ := HCK.out k hkX
            rw [HX1.out] at g1
            go_wp2_with (at_builtin; refine wpList_append_own _ rfl _ _ 32 rfl w4.heap.size 48 i0' (.agg #[.string ByteArray.empty, .string ByteArray.empty]) 2 32 Tryd.underlying32 hi' hz0 hz1 hz2 rfl (by decide) _ _ _ rfl (own_empty w4 48 2) ⟨gb, go, none⟩ n rc (lnkV X) rfl ?c1 ?c2 ?c3 ?c4 ?c5 ?c6 ?_)
            case c1 => rw [lnkV_length, HXL.out]
            case c2 => exact lnk_cells_at HCK.out
            case c3 => exact lnkV_one X
            case c4 => unfold maxLen; omega
            case c5 => omega
            intro v5 W5 own5' gr5 _
            have own5 : W5.ownsRow w4.heap.size 48 2 v5 n (lnkV X) := by simpa using own5'
            have C5 : Below w4.heap.size w4 W5 := ((Below.refl _ w4).alloc (Nat.le_refl _) _).grown gr5 (by simp) (fun j hj => ((own_empty w4 48 2).lt j hj).1)
            obtain ⟨n', rfl⟩ : ∃ n', n = n' + 1 := ⟨n - 1, by omega⟩
            obtain ⟨g', cap', rfl⟩ := ownsRow_succ own5
            have q1 := own5.cellAt (k * 2) (by omega)
            rw [(lnkV_get X k hkX).1, HX1.out] at q1
            have q2 := own5.frozenAt (k * 2)
            have own6 := (own5.stored (k * 2) (.string ⟨q.toArray⟩)).1
            have hg' := (own5.lt g' rfl).1
            have C6 : Below w4.heap.size w4 (W5.setCell ⟨g', k * 2, none⟩ (.string ⟨q.toArray⟩)) := C5.setCell (p := ⟨g', k * 2, none⟩) hg' _
            have K6 := KS.out _ _ _ _ own6 (by omega)
            have B6 := bel_trans B4 C6
            have HV := CK.out _ _ B6 K6
            clear gr5 own5' own5 own6 K6 KS CK HCK own1
            go_wp2_with fail
            refine HV.mono ?_
            rintro e w7 ⟨rfl, b7⟩
            have B7 := bel_trans B6 b7
            go_wp2_with fail
            go_ret
            exact ⟨rfl, B7⟩
end Go.Proofs.YtgickejfcmnaiaaDoor
