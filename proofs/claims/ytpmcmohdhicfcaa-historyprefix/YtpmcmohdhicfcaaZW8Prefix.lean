/-
  The walk of HistoryPrefix.
-/
import Derived.Test.YtpmcmohdhicfcaaZShown8
import Derived.Test.YtpmcmohdhicfcaaZHist9
import Derived.Test.YtpmcmohdhicfcaaGE
import Derived.Deep.RegionHeld3
import Derived.BigQuiet
import Derived.Deep.QuietTactic
namespace Go.Proofs.Ytpmcmohdhicfcaa
set_option maxRecDepth 100000
open Go.RowKit
set_option linter.unusedVariables false
attribute [local go_sem] ba_size ba_append ba_get ba_extract
set_option maxHeartbeats 4000000 in
theorem prefix8_walk (C : P8C) (w : World) (vh : Value) (h : List Ev) (Th : IsEvs w vh h) (Gh : ∀ x ∈ h, goodE x) (cut : Int) :
    Calls Try.prog 9 #[vh, .int .i64 cut] w fun e w' => e = .returned (.bool true) ∧ Below w.heap.size w w' := by
  have HSh : Hid (∀ W, Below w.heap.size w W → Calls Try.prog 11 #[] W fun e w' => e = .returned (.bool true) ∧ Below W.heap.size W w') := fun W h => shown8_any C W
  have HF : Hid (∀ W, Below w.heap.size w W → Calls Try.prog 12 #[vh] W fun e w' => e = .returned (.bool (decide (h.length ≤ 300))) ∧ Below W.heap.size W w') := fun W hb => few8_any vh h W (Th.below hb)
  obtain ⟨ah, ch, rfl, ih, jh, kh, HCh⟩ := Th.reads
  obtain ⟨n, hn⟩ : ∃ n, h.length = n := ⟨_, rfl⟩
  have HN : Hid (h.length = n) := hn
  simp only [hn] at HF ih kh ⊢
  clear hn
  by_cases h1 : n ≤ 300
  · rw [decide_eq_true h1] at HF
    by_cases c1 : ¬ cut < 0
    · skip
      by_cases c2 : ¬ (n : Int) < cut
      · skip
        by_cases c3 : ¬ 256 < n
        · have c3' : ¬ (256 : Int) < (n : Int) := by omega
          obtain ⟨p, rfl⟩ : ∃ p : Nat, cut = (p : Int) := ⟨cut.toNat, by omega⟩
          have hp : p ≤ n := by omega
          have z1 : decide ((p : Int) < 0) = false := decide_eq_false (by omega)
          have z2 : decide (n < p) = false := decide_eq_false (by omega)
          have z3 : decide ((256 : Int) < (n : Int)) = false := decide_eq_false (by omega)
          have z4 : decide (256 < n) = false := decide_eq_false (by omega)
          have z5 : decide ((n : Int) < (p : Int)) = false := decide_eq_false (by omega)
          have H256 : Hid (n ≤ 256) := by show n ≤ 256; omega
          clear c1 c2 c3 c3'
          obtain ⟨i0, hi, hz0, hz1, hz2⟩ := info_parts ev_info7
          go_enter Try.func9, Try.ntmps9
          go_wp2_with fail
          refine (HSh.out _ (Below.refl w.heap.size w)).mono ?_
          rintro e w1 ⟨rfl, b1⟩
          have B1 := bel_trans (Below.refl w.heap.size w) b1
          go_wp2_with fail
          refine (HF.out _ B1).mono ?_
          rintro e w2 ⟨rfl, b2⟩
          have B2 := bel_trans B1 b2
          go_wp2_with fail
          go_loopw [7, 8] (fun r i wr => ∃ (k c : Nat), k ≤ n ∧ c ≤ k ∧ i = .int .i64 k ∧ Hid ((noReads (h.take k)).length = c) ∧ Below w.heap.size w wr ∧ wr.ownsRow w.heap.size 50 4 r c (recV evV (noReads (h.take k)))) (fun _ i _ => n - (intOf i).toNat)
          case atStart => exact ⟨0, 0, Nat.zero_le _, Nat.zero_le _, rfl, rfl, B2, World.ownsRow_nil _ _ _ _⟩
          case round =>
            obtain ⟨k, c, hk, hc, rfl, HL, hbw, hrow⟩ := hrel
            by_cases hlt : k < n
            · have hk1 : k < h.length := by have := HN.out; omega
              obtain ⟨bb, off, rfl, HQ⟩ := HCh.out (by omega)
              obtain ⟨q0, q1, q2, q3⟩ := HQ.out k hk1 _ hbw
              have hnx := noReads_next h k hk1
              rw [← ev_get h k hk1] at hnx
              obtain ⟨⟨x0, x1, x2, x3⟩, hx⟩ : ∃ x, ev h k = x := ⟨_, rfl⟩
              rw [hx] at q0 q1 q2 q3 hnx
              simp only at q0 q1 q2 q3 hnx
              have HX : Hid (noReads (h.take (k + 1)) = if x0 = 2 then noReads (h.take k) else noReads (h.take k) ++ [(x0, x1, x2, x3)]) := hnx
              clear hx hnx
              by_cases d : x0 = 2
              · have e1 : (x0 != 2) = false := by rw [d]; rfl
                have HV : Hid (noReads (h.take (k + 1)) = noReads (h.take k)) := by show _ = _; rw [HX.out, if_pos d]
                clear d
                go_wp2_with fail
                refine ⟨?relA, ?meaA⟩
                case relA => exact ⟨k + 1, c, by omega, by omega, by first | go_num | simp, by rw [HV.out]; exact HL, hbw, by rw [HV.out]; exact hrow⟩
                case meaA => simp [intOf]; omega
              · have e1 : (x0 != 2) = true := bne_iff_ne.2 d
                have HV : Hid (noReads (h.take (k + 1)) = noReads (h.take k) ++ [(x0, x1, x2, x3)]) := by show _ = _; rw [HX.out, if_neg d]
                have HR : Hid (recV evV (noReads (h.take (k + 1))) = recV evV (noReads (h.take k)) ++ [.int .i64 x0, .int .i64 x1, .string ⟨x2.toArray⟩, .string ⟨x3.toArray⟩]) := by show _ = _; rw [HV.out, recV_append]; rfl
                have HL' : Hid ((noReads (h.take (k + 1))).length = c + 1) := by show _ = _; rw [HV.out, List.length_append, HL.out]; rfl
                obtain ⟨DR, hDR⟩ : ∃ d, recV evV (noReads (h.take k)) = d := ⟨_, rfl⟩
                rw [hDR] at hrow HR
                have sz := hbw.size
                clear hDR
                go_wp2_with (at_builtin; refine wpList_append_own _ rfl _ _ 22 rfl w.heap.size 50 i0 (.agg #[.int .i64 0, .int .i64 0, .string ByteArray.empty, .string ByteArray.empty]) 4 48 Try.underlying22 hi hz0 hz1 hz2 rfl (by decide) _ _ _ rfl (hrow.alloc _) ⟨wr.heap.size, 0, none⟩ 1 1 [.int .i64 x0, .int .i64 x1, .string ⟨x2.toArray⟩, .string ⟨x3.toArray⟩] rfl rfl ?d1 ?d2 ?d3 ?d4 ?d5 ?_)
                try
                  case d1 =>
                    intro j u hj
                    match j, hj with
                    | 0, hj => simp at hj; subst hj; first | (simp [Addr.add]; done) | exact cell_new7 (by simp) rfl
                    | 1, hj => simp at hj; subst hj; first | (simp [Addr.add]; done) | exact cell_new7 (by simp) rfl
                    | 2, hj => simp at hj; subst hj; first | (simp [Addr.add]; done) | exact cell_new7 (by simp) rfl
                    | 3, hj => simp at hj; subst hj; first | (simp [Addr.add]; done) | exact cell_new7 (by simp) rfl
                try
                  case d2 => first | exact evV_one (x0, x1, x2, x3) | exact ⟨rfl, rfl, rfl, rfl⟩
                try
                  case d3 => unfold maxLen; omega
                try
                  case d4 => omega
                try
                  case d5 => first | (simp; done) | (simp; omega)
                intro v' w9 own9 g9 _
                have B9 : Below w.heap.size w w9 := (hbw.alloc hbw.size _).grown g9 (by have := hbw.size; simp at this ⊢; omega) (fun j hj => (hrow.lt j hj).1)
                go_wp2_with fail
                refine ⟨?relB, ?meaB⟩
                case relB => exact ⟨k + 1, c + 1, by omega, by omega, by first | go_num | simp, HL', B9, by rw [HR.out]; exact own9⟩
                case meaB => simp [intOf]; omega
            · obtain rfl : k = n := by omega
              have hh : h.take k = h := List.take_of_length_le (by have := HN.out; omega)
              rw [hh] at HL hrow
              have Tk := IsRec.own (L := noReads h) evV_len (by omega) hrow (by omega)
              obtain ⟨gk, ck, hv9, hck⟩ := own_slice9 hrow
              subst hv9
              have Gk : ∀ x ∈ noReads h, goodE x := fun x hx => Gh x (List.mem_filter.1 hx).1
              have Hcut : Hid (∀ m, m ≤ c → ((formedL (noReads h)).1 < m ∧ (formedL (noReads h)).2 ≠ 0 ∧ formedL ((noReads h).take m) = formedL (noReads h)) ∨ (¬ ((formedL (noReads h)).1 < m ∧ (formedL (noReads h)).2 ≠ 0) ∧ (formedL ((noReads h).take m)).1 = m ∧ ((formedL ((noReads h).take m)).2 = 0 ∨ (formedL ((noReads h).take m)).2 = 9))) := fun m hm => by
                have := noReads_cut h m (by have := HN.out; have := H256.out; omega) (by rw [HL.out]; exact hm)
                exact this
              have HM1 : Hid (∀ W, Below wr.heap.size wr W → Calls Try.prog 13 #[.slice gk c ck] W fun e w' => e = .returned (.tuple #[.int .i64 ((formedL (noReads h)).1 : Int), .int .i64 ((formedL (noReads h)).2 : Int)]) ∧ Below W.heap.size W w') := fun W hb => C.formed (noReads h) _ W (Tk.below hb) Gk
              have HM2 : Hid (∀ m, m ≤ c → ∀ W, Below wr.heap.size wr W → Calls Try.prog 13 #[.slice gk m ck] W fun e w' => e = .returned (.tuple #[.int .i64 ((formedL ((noReads h).take m)).1 : Int), .int .i64 ((formedL ((noReads h).take m)).2 : Int)]) ∧ Below W.heap.size W w') := fun m hm W hb => by
                have hT : IsRec 4 evV W (.slice gk (noReads h).length ck) (noReads h) := by rw [HL.out]; exact Tk.below hb
                exact C.formed ((noReads h).take m) _ W (hT.take m (by rw [HL.out]; exact hm)) (fun x hx => Gk x (List.mem_of_mem_take hx))
              obtain ⟨⟨a1, a2⟩, ha⟩ : ∃ y, formedL (noReads h) = y := ⟨_, rfl⟩
              rw [ha] at HM1 Hcut
              simp only at HM1
              clear ha hh Tk Gk
              by_cases hpc : (c : Int) < (p : Int)
              · have hm := HM2.out c (Nat.le_refl _)
                have hcu := Hcut.out c (Nat.le_refl _)
                obtain ⟨⟨b1', b2'⟩, hb'⟩ : ∃ y, formedL ((noReads h).take c) = y := ⟨_, rfl⟩
                rw [hb'] at hm hcu
                simp only at hm hcu
                clear hb'
                have q1 : (0 : Int) ≤ (c : Int) := by omega
                have q2 : c ≤ ck := by omega
                have q3 : (c : Int) ≤ (c : Int) := by omega
                rcases hcu with ⟨d1, d2, d3⟩ | ⟨d1, d2, d3⟩
                · simp only [Prod.mk.injEq] at d3
                  obtain ⟨rfl, rfl⟩ := d3
                  have j1 : (b1' : Int) < (c : Int) := by omega
                  have j2 : ((b2' : Int) != 0) = true := by rw [bne_iff_ne]; omega
                  have j3 : ((b1' : Int) == (b1' : Int)) = true := beq_self_eq_true _
                  have j4 : ((b2' : Int) == (b2' : Int)) = true := beq_self_eq_true _
                  clear d1 d2
                  go_wp2_with fail
                  refine (HM1.out _ (Below.refl _ _)).mono ?_
                  rintro e wa ⟨rfl, ba⟩
                  go_wp2_with fail
                  refine (hm _ ba).mono ?_
                  rintro e wb ⟨rfl, bb⟩
                  go_wp2_with fail
                  go_ret
                  exact ⟨rfl, bel_trans hbw (bel_trans ba bb)⟩
                · obtain rfl : b1' = c := d2
                  have hor : ¬ (a1 : Int) < (b1' : Int) ∨ ((a1 : Int) < (b1' : Int) ∧ ((a2 : Int) != 0) = false) := by
                    by_cases hx : a1 < b1'
                    · right; refine ⟨by omega, ?_⟩
                      have : a2 = 0 := Classical.byContradiction fun hh => d1 ⟨hx, hh⟩
                      rw [this]; rfl
                    · left; omega
                  have j3 : ((b1' : Int) == (b1' : Int)) = true := beq_self_eq_true _
                  clear d1
                  rcases hor with g1 | ⟨g1, g2⟩
                  all_goals
                    rcases d3 with rfl | rfl
                    all_goals
                      go_wp2_with fail
                      refine (HM1.out _ (Below.refl _ _)).mono ?_
                      rintro e wa ⟨rfl, ba⟩
                      go_wp2_with fail
                      refine (hm _ ba).mono ?_
                      rintro e wb ⟨rfl, bb⟩
                      go_wp2_with fail
                      go_ret
                      exact ⟨rfl, bel_trans hbw (bel_trans ba bb)⟩
              · have hm := HM2.out p (by omega)
                have hcu := Hcut.out p (by omega)
                obtain ⟨⟨b1', b2'⟩, hb'⟩ : ∃ y, formedL ((noReads h).take p) = y := ⟨_, rfl⟩
                rw [hb'] at hm hcu
                simp only at hm hcu
                clear hb'
                have q1 : (0 : Int) ≤ (p : Int) := by omega
                have q2 : p ≤ ck := by omega
                have q3 : (p : Int) ≤ (c : Int) := by omega
                rcases hcu with ⟨d1, d2, d3⟩ | ⟨d1, d2, d3⟩
                · simp only [Prod.mk.injEq] at d3
                  obtain ⟨rfl, rfl⟩ := d3
                  have j1 : (b1' : Int) < (p : Int) := by omega
                  have j2 : ((b2' : Int) != 0) = true := by rw [bne_iff_ne]; omega
                  have j3 : ((b1' : Int) == (b1' : Int)) = true := beq_self_eq_true _
                  have j4 : ((b2' : Int) == (b2' : Int)) = true := beq_self_eq_true _
                  clear d1 d2
                  go_wp2_with fail
                  refine (HM1.out _ (Below.refl _ _)).mono ?_
                  rintro e wa ⟨rfl, ba⟩
                  go_wp2_with fail
                  refine (hm _ ba).mono ?_
                  rintro e wb ⟨rfl, bb⟩
                  go_wp2_with fail
                  go_ret
                  exact ⟨rfl, bel_trans hbw (bel_trans ba bb)⟩
                · obtain rfl : b1' = p := d2
                  have hor : ¬ (a1 : Int) < (b1' : Int) ∨ ((a1 : Int) < (b1' : Int) ∧ ((a2 : Int) != 0) = false) := by
                    by_cases hx : a1 < b1'
                    · right; refine ⟨by omega, ?_⟩
                      have : a2 = 0 := Classical.byContradiction fun hh => d1 ⟨hx, hh⟩
                      rw [this]; rfl
                    · left; omega
                  have j3 : ((b1' : Int) == (b1' : Int)) = true := beq_self_eq_true _
                  clear d1
                  rcases hor with g1 | ⟨g1, g2⟩
                  all_goals
                    rcases d3 with rfl | rfl
                    all_goals
                      go_wp2_with fail
                      refine (HM1.out _ (Below.refl _ _)).mono ?_
                      rintro e wa ⟨rfl, ba⟩
                      go_wp2_with fail
                      refine (hm _ ba).mono ?_
                      rintro e wb ⟨rfl, bb⟩
                      go_wp2_with fail
                      go_ret
                      exact ⟨rfl, bel_trans hbw (bel_trans ba bb)⟩
        · have c3' : (256 : Int) < (n : Int) := by omega
          go_enter Try.func9, Try.ntmps9
          go_wp2_with fail
          refine (HSh.out _ (Below.refl w.heap.size w)).mono ?_
          rintro e w1 ⟨rfl, b1⟩
          have B1 := bel_trans (Below.refl w.heap.size w) b1
          go_wp2_with fail
          refine (HF.out _ B1).mono ?_
          rintro e w2 ⟨rfl, b2⟩
          have B2 := bel_trans B1 b2
          go_wp2_with fail
          go_ret
          exact ⟨rfl, B2⟩
      · skip
        go_enter Try.func9, Try.ntmps9
        go_wp2_with fail
        refine (HSh.out _ (Below.refl w.heap.size w)).mono ?_
        rintro e w1 ⟨rfl, b1⟩
        have B1 := bel_trans (Below.refl w.heap.size w) b1
        go_wp2_with fail
        refine (HF.out _ B1).mono ?_
        rintro e w2 ⟨rfl, b2⟩
        have B2 := bel_trans B1 b2
        go_wp2_with fail
        go_ret
        exact ⟨rfl, B2⟩
    · skip
      go_enter Try.func9, Try.ntmps9
      go_wp2_with fail
      refine (HSh.out _ (Below.refl w.heap.size w)).mono ?_
      rintro e w1 ⟨rfl, b1⟩
      have B1 := bel_trans (Below.refl w.heap.size w) b1
      go_wp2_with fail
      refine (HF.out _ B1).mono ?_
      rintro e w2 ⟨rfl, b2⟩
      have B2 := bel_trans B1 b2
      go_wp2_with fail
      go_ret
      exact ⟨rfl, B2⟩
  · rw [decide_eq_false h1] at HF
    go_enter Try.func9, Try.ntmps9
    go_wp2_with fail
    refine (HSh.out _ (Below.refl w.heap.size w)).mono ?_
    rintro e w1 ⟨rfl, b1⟩
    have B1 := bel_trans (Below.refl w.heap.size w) b1
    go_wp2_with fail
    refine (HF.out _ B1).mono ?_
    rintro e w2 ⟨rfl, b2⟩
    have B2 := bel_trans B1 b2
    go_wp2_with fail
    go_ret
    exact ⟨rfl, B2⟩
end Go.Proofs.Ytpmcmohdhicfcaa
