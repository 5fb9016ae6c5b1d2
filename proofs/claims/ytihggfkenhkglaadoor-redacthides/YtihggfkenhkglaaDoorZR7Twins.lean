/-
  What cartoucheref07.twins answers.
-/
import Derived.Test.YtihggfkenhkglaaDoorGR
import Derived.Test.YtihggfkenhkglaaDoorZR5K
import Derived.Test.YtihggfkenhkglaaDoorGH
import Derived.BigQuiet
import Derived.Deep.QuietTactic
namespace Go.Proofs.YtihggfkenhkglaaDoor
set_option maxRecDepth 100000
open Go.RowKit
set_option linter.unusedVariables false
attribute [local go_sem] ba_size
def twV (r : List UInt8 × List UInt8 × Bool) : Value := .tuple #[.string ⟨r.1.toArray⟩, .string ⟨r.2.1.toArray⟩, .bool r.2.2]
theorem twinB_no (kd : List UInt8 → List UInt8) (g : Nat → List UInt8) (i k : Nat) (h : ¬ (g i ≠ [] ∧ g k ≠ [] ∧ g i ≠ g k ∧ kd (g i) = kd (g k))) : twinB kd g i k = false := decide_eq_false h
theorem below_next (p : Nat → Prop) (q : Nat) (h : ∀ j, j < q → p j) (hq : p q) : ∀ j, j < q + 1 → p j := fun j hj => by
  rcases Nat.lt_or_ge j q with h' | h'
  · exact h j h'
  · obtain rfl : j = q := by omega
    exact hq
set_option maxHeartbeats 4000000 in
theorem rtwins_any (s : List UInt8) (l : List (List UInt8)) (v : Value) (w : World) (hT : IsTxt w v l) (hs : mayK s ∨ l = []) :
    Calls Tryd.prog 36 #[.string ⟨s.toArray⟩, v] w fun e w' => e = .returned (twV (twinsR (twinsG (keyL s) (txtAt l) l.length))) ∧ Below w.heap.size w w' := by
  have hbd := hT.bound
  obtain ⟨a, cap, rfl, h1, h2, h3, HC⟩ := hT.some_at
  obtain ⟨n, hn⟩ : ∃ n, l.length = n := ⟨_, rfl⟩
  have HN : Hid (l.length = n) := hn
  have HBD : Hid (∀ t ∈ l, t.length ≤ 1125899906842624) := hbd
  rw [hn] at h1 h3 ⊢
  clear hT hn hbd
  go_enter Tryd.func36, Tryd.ntmps36
  go_wp2_with fail
  go_loopw [7] (fun i wr => ∃ k : Nat, k ≤ n ∧ i = .int .i64 k ∧ Hid (∀ j, j < k → twinAt (keyL s) (txtAt l) j = none) ∧ Below w.heap.size w wr) (fun i _ => n - (intOf i).toNat)
  case atStart => exact ⟨0, Nat.zero_le _, rfl, (fun j hj => by omega), Below.refl _ _⟩
  case round =>
    obtain ⟨k, hk, rfl, HA, hbw⟩ := hrel
    obtain ⟨wo, rfl⟩ : ∃ x, x = wr := ⟨_, rfl⟩
    by_cases hlt : k < n
    · have hk1 : k < l.length := by have := HN.out; omega
      have hs' : mayK s := by
        rcases hs with hs | hs
        · exact hs
        · subst hs; simp at hk1
      obtain ⟨bb, off, rfl, hblt, hcell⟩ := HC.out k hk1
      have HQ : Hid (∀ j (hj : j < l.length), ∀ V, Below w.heap.size w V → V.cell? ⟨bb, off + j, none⟩ = some (.string ⟨(txtAt l j).toArray⟩)) := by
        intro j hj V hV
        obtain ⟨bb', off', hbo, hblt', hcell'⟩ := HC.out j hj
        obtain ⟨rfl, rfl⟩ : bb = bb' ∧ off = off' := by simpa using hbo
        rw [txtAt_get l j hj]
        exact (hV.cell (p := ⟨bb, off + j, none⟩) hblt).trans hcell'
      have lx : (txtAt l k).length ≤ 1125899906842624 := by rw [txtAt_get l k hk1]; exact HBD.out _ (List.getElem_mem hk1)
      obtain ⟨x, hx⟩ : ∃ x, txtAt l k = x := ⟨_, rfl⟩
      have HX : Hid (txtAt l k = x) := hx
      rw [hx] at lx
      have CX := fun W => rkeyed_any s x (by omega) W
      unfold keyP at CX
      rw [if_pos hs'] at CX
      obtain ⟨p, hp⟩ : ∃ p, keyL s x = p := ⟨_, rfl⟩
      have HP : Hid (keyL s x = p) := hp
      rw [hp] at CX
      clear hcell hx hp
      go_wp2_with fail
      go_loopw [8] (fun i wq => ∃ q : Nat, q ≤ k ∧ i = .int .i64 q ∧ Hid (∀ j, j < q → twinB (keyL s) (txtAt l) k j = false) ∧ Below w.heap.size w wq) (fun i _ => k - (intOf i).toNat)
      case atStart => exact ⟨0, Nat.zero_le _, rfl, (fun j hj => by omega), hbw⟩
      case round =>
        obtain ⟨q, hq, rfl, HI, hbq⟩ := hrel
        by_cases hql : q < k
        · have hq1 : q < l.length := by have := HN.out; omega
          have hqn : q < n := by omega
          have cx := HQ.out k hk1 _ hbq
          have cy := HQ.out q hq1 _ hbq
          have ly : (txtAt l q).length ≤ 1125899906842624 := by rw [txtAt_get l q hq1]; exact HBD.out _ (List.getElem_mem hq1)
          rw [HX.out] at cx
          obtain ⟨y, hy⟩ : ∃ y, txtAt l q = y := ⟨_, rfl⟩
          have HY : Hid (txtAt l q = y) := hy
          rw [hy] at cy ly
          have CY := fun W => rkeyed_any s y (by omega) W
          unfold keyP at CY
          rw [if_pos hs'] at CY
          obtain ⟨r, hr⟩ : ∃ r, keyL s y = r := ⟨_, rfl⟩
          have HR : Hid (keyL s y = r) := hr
          rw [hr] at CY
          clear hy hr
          by_cases d1 : x = []
          · subst d1
            have HI' : Hid (∀ j, j < q + 1 → twinB (keyL s) (txtAt l) k j = false) := below_next _ q HI.out (twinB_no _ _ _ _ (fun h => h.1 HX.out))
            go_wp2_with fail
            go_quiet (fail)
            go_wp2_with fail
            refine ⟨?relA, ?meaA⟩
            case relA => exact ⟨q + 1, by omega, by first | go_num | simp, HI', below_drewN hbq _⟩
            case meaA => simp [intOf]; omega
          · have n1 := ne_nil7 x d1
            by_cases d2 : y = []
            · subst d2
              have HI' : Hid (∀ j, j < q + 1 → twinB (keyL s) (txtAt l) k j = false) := below_next _ q HI.out (twinB_no _ _ _ _ (fun h => h.2.1 HY.out))
              go_wp2_with fail
              go_quiet (fail)
              go_wp2_with fail
              refine ⟨?relB, ?meaB⟩
              case relB => exact ⟨q + 1, by omega, by first | go_num | simp, HI', below_drewN hbq _⟩
              case meaB => simp [intOf]; omega
            · have n2 := ne_nil7 y d2
              by_cases d3 : x = y
              · have HI' : Hid (∀ j, j < q + 1 → twinB (keyL s) (txtAt l) k j = false) := below_next _ q HI.out (twinB_no _ _ _ _ (fun h => h.2.2.1 (by rw [HX.out, HY.out]; exact d3)))
                subst d3
                have e0 : (x == x) = true := beq_self_eq_true x
                go_wp2_with fail
                go_quiet (fail)
                go_wp2_with fail
                refine ⟨?relC, ?meaC⟩
                case relC => exact ⟨q + 1, by omega, by first | go_num | simp, HI', below_drewN hbq _⟩
                case meaC => simp [intOf]; omega
              · have e0 : (x == y) = false := beq_eq_false_iff_ne.2 d3
                by_cases d4 : p = r
                · subst d4
                  have e1 : (p == p) = true := beq_self_eq_true p
                  have HT : Hid (twinsG (keyL s) (txtAt l) n = some (y, x)) := by
                    have := twinsG_hit (keyL s) (txtAt l) n k q hlt hql HA.out HI.out (decide_eq_true ⟨by rw [HX.out]; exact d1, by rw [HY.out]; exact d2, by rw [HX.out, HY.out]; exact d3, by rw [HX.out, HY.out, HP.out, HR.out]⟩)
                    rw [HX.out, HY.out] at this
                    exact this
                  clear d1 d2 d3
                  go_wp2_with fail
                  go_quiet (fail)
                  go_wp2_with fail
                  refine (CX _).mono ?_
                  rintro e w3 ⟨rfl, b3⟩
                  have B3 := bel_trans (below_drewN hbq _) b3
                  have cy3 := HQ.out q hq1 _ B3
                  rw [HY.out] at cy3
                  go_wp2_with fail
                  refine (CY _).mono ?_
                  rintro e w4 ⟨rfl, b4⟩
                  have B4 := bel_trans B3 b4
                  have cx4 := HQ.out k hk1 _ B4
                  have cy4 := HQ.out q hq1 _ B4
                  rw [HX.out] at cx4
                  rw [HY.out] at cy4
                  go_wp2_with fail
                  go_quiet (fail)
                  go_wp2_with fail
                  go_ret3
                  exact ⟨by rw [HT.out]; rfl, below_drewN B4 _⟩
                · have e1 : (p == r) = false := beq_eq_false_iff_ne.2 d4
                  have HI' : Hid (∀ j, j < q + 1 → twinB (keyL s) (txtAt l) k j = false) := below_next _ q HI.out (twinB_no _ _ _ _ (fun h => d4 (by have := h.2.2.2; rw [HX.out, HY.out, HP.out, HR.out] at this; exact this)))
                  clear d1 d2 d3 d4
                  go_wp2_with fail
                  go_quiet (fail)
                  go_wp2_with fail
                  refine (CX _).mono ?_
                  rintro e w3 ⟨rfl, b3⟩
                  have B3 := bel_trans (below_drewN hbq _) b3
                  have cy3 := HQ.out q hq1 _ B3
                  rw [HY.out] at cy3
                  go_wp2_with fail
                  refine (CY _).mono ?_
                  rintro e w4 ⟨rfl, b4⟩
                  have B4 := bel_trans B3 b4
                  go_wp2_with fail
                  refine ⟨?relD, ?meaD⟩
                  case relD => exact ⟨q + 1, by omega, by first | go_num | simp, HI', B4⟩
                  case meaD => simp [intOf]; omega
        · obtain rfl : q = k := by omega
          have HA' : Hid (∀ j, j < q + 1 → twinAt (keyL s) (txtAt l) j = none) := below_next _ q HA.out (twinAt_off _ _ _ HI.out)
          go_wp2_with fail
          refine ⟨?relE, ?meaE⟩
          case relE => exact ⟨q + 1, by omega, by first | go_num | simp, HA', hbq⟩
          case meaE => simp [intOf]; omega
    · obtain rfl : k = n := by omega
      have HT : Hid (twinsG (keyL s) (txtAt l) k = none) := twinsG_end _ _ _ HA.out
      go_wp2_with fail
      go_ret3
      exact ⟨by rw [HT.out]; rfl, hbw⟩
end Go.Proofs.YtihggfkenhkglaaDoor
