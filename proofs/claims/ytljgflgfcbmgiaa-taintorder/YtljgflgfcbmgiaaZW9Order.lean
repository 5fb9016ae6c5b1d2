/-
  The walk of TaintOrder.
-/
import Derived.Test.YtljgflgfcbmgiaaZShown9
import Derived.Test.YtljgflgfcbmgiaaZR9All
import Derived.Test.YtljgflgfcbmgiaaZBads9b
import Derived.Deep.RegionHeld3
import Derived.BigQuiet
import Derived.Deep.QuietTactic
namespace Go.Proofs.Ytljgflgfcbmgiaa
set_option maxRecDepth 100000
open Go.RowKit
set_option linter.unusedVariables false
attribute [local go_sem] ba_size ba_append ba_get ba_extract
set_option maxHeartbeats 4000000 in
theorem order9_walk (C : P9C) (w : World) (vh : Value) (h : List Ev) (Th : IsEvs w vh h) (Gh : ∀ x ∈ h, goodE x) :
    Calls Try.prog 6 #[vh] w fun e w' => e = .returned (.bool true) ∧ Below w.heap.size w w' := by
  have HSh : Hid (∀ W, Below w.heap.size w W → Calls Try.prog 9 #[] W fun e w' => e = .returned (.bool true) ∧ Below W.heap.size W w') := fun W h => shown9_any C W
  have HF : Hid (∀ W, Below w.heap.size w W → Calls Try.prog 10 #[vh] W fun e w' => e = .returned (.bool (decide (h.length ≤ 300))) ∧ Below W.heap.size W w') := fun W hb => few9_any vh h W (Th.below hb)
  by_cases h1 : h.length ≤ 300
  · rw [decide_eq_true h1] at HF
    have HAt : Hid (∀ (k : Nat) W, k < h.length → Below w.heap.size w W → Calls Try.prog 15 #[vh, .int .i64 (k : Int)] W fun e w' => e = .returned (badA (atL h k)) ∧ Below W.heap.size W w') := fun k W hk hb => by
      have := C.at_ h vh W (k : Int) (Th.below hb) Gh h1 (by unfold okI; omega)
      rw [atI_nat] at this
      exact this
    have HB : Hid (∀ W, Below w.heap.size w W → Calls Try.prog 13 #[vh] W fun e w' => BdRow 29 W (badsL h) e w') := fun W hb => C.all h vh W (Th.below hb) Gh h1
    have bL := bads_len h
    have HP : Hid (∀ k, k < h.length → ((atL h k).1 = 0 ∧ badCount h (k + 1) = badCount h k) ∨ ((atL h k).1 ≠ 0 ∧ badCount h (k + 1) = badCount h k + 1 ∧ (badsL h)[badCount h k]? = some (atL h k))) := fun k hk => bad_step h k hk
    have HE : Hid (badCount h h.length = (badsL h).length) := bad_all h
    obtain ⟨BB, hBB⟩ : ∃ y, badsL h = y := ⟨_, rfl⟩
    rw [hBB] at HB HP HE bL
    clear hBB
    obtain ⟨ah, ch, rfl, ih, jh, kh, HCh⟩ := Th.reads
    obtain ⟨n, hn⟩ : ∃ n, h.length = n := ⟨_, rfl⟩
    have HN : Hid (h.length = n) := hn
    simp only [hn] at HF HAt HB h1 ih kh bL ⊢
    clear hn
    go_enter Try.func6, Try.ntmps6
    go_wp2_with fail
    refine (HSh.out _ (Below.refl w.heap.size w)).mono ?_
    rintro e w1 ⟨rfl, b1⟩
    have B1 := bel_trans (Below.refl w.heap.size w) b1
    go_wp2_with fail
    refine (HF.out _ B1).mono ?_
    rintro e w2 ⟨rfl, b2⟩
    have B2 := bel_trans B1 b2
    go_wp2_with fail
    refine (HB.out _ B2).mono ?_
    rintro e w3 hres3
    obtain ⟨ul, rfl, b3, ol⟩ := hres3
    have B3 := bel_trans B2 b3
    have Tl : IsBads w3 ul BB := IsRec.own (L := BB) badV_len (by omega) ol (by omega)
    obtain ⟨al, cl, rfl, il, jl, kl, HCl⟩ := Tl.some_at
    clear ol
    go_wp2_with fail
    go_loopw [6, 7] (fun a i wr => ∃ k : Nat, k ≤ n ∧ a = .int .i64 (badCount h k : Int) ∧ i = .int .i64 k ∧ Below w3.heap.size w3 wr) (fun _ i _ => n - (intOf i).toNat)
    case atStart => exact ⟨0, Nat.zero_le _, rfl, rfl, Below.refl _ _⟩
    case round =>
      obtain ⟨k, hk, rfl, rfl, hbr⟩ := hrel
      have hbw := bel_trans B3 hbr
      by_cases hlt : k < n
      · have hk1 : k < h.length := by have := HN.out; omega
        have D := HAt.out k
        have hp := HP.out k hk1
        obtain ⟨⟨z0, z1, z2⟩, hz⟩ : ∃ y, atL h k = y := ⟨_, rfl⟩
        rw [hz] at D hp
        simp only at hp
        obtain ⟨m, hm⟩ : ∃ m, badCount h k = m := ⟨_, rfl⟩
        have HM : Hid (badCount h k = m) := hm
        simp only [hm] at hp ⊢
        clear hz hm
        rcases hp with ⟨p1, p2⟩ | ⟨p1, p2, p3⟩
        · have e1 : (z0 == 0) = true := by rw [p1]; rfl
          have HNx : Hid (badCount h (k + 1) = m) := p2
          clear p1 p2
          go_wp2_with fail
          refine (D _ (by have := HN.out; omega) hbw).mono ?_
          rintro e w4 ⟨rfl, b4⟩
          have C4 := bel_trans hbr b4
          have C4' := C4.alloc C4.size (.cells #[.int .i64 z0, .int .i64 z1, .int .i64 z2] 29)
          go_wp2_with fail
          refine ⟨?relA, ?meaA⟩
          case relA => exact ⟨k + 1, by omega, by rw [HNx.out], by first | go_num | simp, C4'⟩
          case meaA => simp [intOf]; omega
        · have e1 : (z0 == 0) = false := beq_eq_false_iff_ne.2 p1
          have HNx : Hid (badCount h (k + 1) = m + 1) := p2
          obtain ⟨hml, hme⟩ := List.getElem?_eq_some_iff.1 p3
          have g1 : ¬ (BB.length : Int) ≤ (m : Int) := by omega
          have g2 : ¬ BB.length ≤ m := by omega
          obtain ⟨bl, fl', rfl, ltl, cel⟩ := HCl.out m hml
          rw [hme] at cel
          have r0 := cel 0 _ rfl
          have r1 := cel 1 _ rfl
          have r2 := cel 2 _ rfl
          simp only [Nat.add_zero] at r0
          have HR : Hid (∀ V, Below w3.heap.size w3 V → V.cell? ⟨bl, fl' + m * 3, none⟩ = some (.int .i64 z0) ∧ V.cell? ⟨bl, fl' + m * 3 + 1, none⟩ = some (.int .i64 z1) ∧ V.cell? ⟨bl, fl' + m * 3 + 2, none⟩ = some (.int .i64 z2)) := fun V hV => ⟨(hV.cell (p := ⟨bl, fl' + m * 3, none⟩) ltl).trans r0, (hV.cell (p := ⟨bl, fl' + m * 3 + 1, none⟩) ltl).trans r1, (hV.cell (p := ⟨bl, fl' + m * 3 + 2, none⟩) ltl).trans r2⟩
          have hml' : (m : Int) < (BB.length : Int) := by omega
          clear p1 p2 p3 cel r0 r1 r2 hme
          go_wp2_with fail
          refine (D _ (by have := HN.out; omega) hbw).mono ?_
          rintro e w4 ⟨rfl, b4⟩
          have C4 := bel_trans hbr b4
          have C4' := C4.alloc C4.size (.cells #[.int .i64 z0, .int .i64 z1, .int .i64 z2] 29)
          have X4 := SBox.new w4 29 #[.int .i64 z0, .int .i64 z1, .int .i64 z2]
          have y0 := X4.cell 0 _ rfl
          have y1 := X4.cell 1 _ rfl
          have y2 := X4.cell 2 _ rfl
          obtain ⟨t0, t1, t2⟩ := HR.out _ C4'
          go_wp2_with fail
          go_quiet (fail)
          go_wp2_with fail
          refine ⟨?relB, ?meaB⟩
          case relB => exact ⟨k + 1, by omega, by rw [HNx.out]; first | rfl | simp | go_num, by first | go_num | simp, below_drewN C4' _⟩
          case meaB => simp [intOf]; omega
      · obtain rfl : k = n := by omega
        have HE' : Hid (badCount h k = BB.length) := by have := HE.out; rw [HN.out] at this; exact this
        rw [HE'.out]
        have e1 : ((BB.length : Int) == (BB.length : Int)) = true := beq_self_eq_true _
        go_wp2_with fail
        go_ret
        exact ⟨rfl, hbw⟩
  · rw [decide_eq_false h1] at HF
    obtain ⟨ah, ch, rfl, ih, jh, kh, HCh⟩ := Th.reads
    go_enter Try.func6, Try.ntmps6
    go_wp2_with fail
    refine (HSh.out _ (Below.refl w.heap.size w)).mono ?_
    rintro e w1 ⟨rfl, b1⟩
    have B1 := bel_trans (Below.refl w.heap.size w) b1
    go_wp2_with fail
    refine (HF.out _ B1).mono ?_
    rintro e w2 ⟨rfl, b2⟩
    have B2 := bel_trans B1 b2
    go_wp2_with fail
    go_ret
    exact ⟨rfl, B2⟩
end Go.Proofs.Ytljgflgfcbmgiaa
