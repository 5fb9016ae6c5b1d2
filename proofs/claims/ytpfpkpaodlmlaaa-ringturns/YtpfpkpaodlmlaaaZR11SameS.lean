/-
  What cartoucheref10.SameSteps answers of two rows of steps.
-/
import Derived.Test.YtpfpkpaodlmlaaaGE
import Derived.Test.YtpfpkpaodlmlaaaZR10Same
import Derived.Deep.RegionHeld3
import Derived.Lib.Hide
import Derived.BigQuiet
import Derived.Deep.QuietTactic
namespace Go.Proofs.Ytpfpkpaodlmlaaa
set_option maxRecDepth 100000
open Go.RowKit
set_option linter.unusedVariables false
attribute [local go_sem] ba_size
def eqS (a b : Stp) : Bool := decide (a.1 = b.1) && decide (a.2.1 = b.2.1) && decide (a.2.2 = b.2.2)
theorem eqS_iff (a b : Stp) : eqS a b = true ↔ a = b := by
  unfold eqS
  rw [Bool.and_eq_true, Bool.and_eq_true, decide_eq_true_eq, decide_eq_true_eq, decide_eq_true_eq]
  constructor
  · intro ⟨⟨h1, h2⟩, h3⟩; exact Prod.ext h1 (Prod.ext h2 h3)
  · rintro rfl; exact ⟨⟨rfl, rfl⟩, rfl⟩
def samS (L M : List Stp) : Bool := decide (L.length = M.length) && (List.range L.length).all fun k => eqS (L.getD k (0, 0, [])) (M.getD k (0, 0, []))
theorem samS_iff (L M : List Stp) : samS L M = true ↔ L = M := by
  unfold samS
  rw [Bool.and_eq_true, decide_eq_true_eq, List.all_eq_true]
  constructor
  · intro ⟨h1, h2⟩
    apply List.ext_getElem h1
    intro i hi hi'
    have := h2 i (List.mem_range.2 hi)
    rw [eqS_iff, List.getD_eq_getElem?_getD, List.getD_eq_getElem?_getD, List.getElem?_eq_getElem hi, List.getElem?_eq_getElem hi'] at this
    exact this
  · rintro rfl
    exact ⟨rfl, fun i hi => (eqS_iff _ _).2 rfl⟩
theorem samS_no (L M : List Stp) (h : L ≠ M) : samS L M = false := by
  cases e : samS L M with
  | false => rfl
  | true => exact absurd ((samS_iff L M).1 e) h
set_option maxHeartbeats 4000000 in
theorem rsamesd_any (v1 v2 : Value) (L M : List Stp) (w : World) (h1 : IsSts w v1 L) (h2 : IsSts w v2 M) :
    Calls Try.prog 19 #[v1, v2] w fun e w' => e = .returned (.bool (samS L M)) ∧ Below w.heap.size w w' := by
  obtain ⟨a1, c1, rfl, p1, p2, p3, H1⟩ := h1.reads
  obtain ⟨a2, c2, rfl, q1, q2, q3, H2⟩ := h2.reads
  clear h1 h2
  obtain ⟨r, hr⟩ : ∃ r, samS L M = r := ⟨_, rfl⟩
  have HR : Hid (samS L M = r) := hr
  rw [hr]
  clear hr
  by_cases hlm : L.length = M.length
  · obtain ⟨n, hn⟩ : ∃ n, L.length = n := ⟨_, rfl⟩
    have HN : Hid (L.length = n) := hn
    have hn2 : M.length = n := by omega
    have HN2 : Hid (M.length = n) := hn2
    rw [hn] at p1 p3 ⊢
    rw [hn2] at q1 q3 ⊢
    clear hn hn2 hlm
    have hbne : ((n : Int) != (n : Int)) = false := by simp
    go_enter Try.func19, Try.ntmps19
    go_wp2_with fail
    go_loopw [5] (fun i wr => ∃ k : Nat, k ≤ n ∧ i = .int .i64 k ∧ Hid (∀ j (hj : j < L.length) (hj' : j < M.length), j < k → L[j] = M[j]) ∧ Below w.heap.size w wr) (fun i _ => n - (intOf i).toNat)
    case atStart => exact ⟨0, Nat.zero_le _, rfl, (fun j _ _ h => by omega), Below.refl _ _⟩
    case round =>
      obtain ⟨k, hk, rfl, HA, hbw⟩ := hrel
      by_cases hlt : k < n
      · have hk1 : k < L.length := by have := HN.out; omega
        have hk2 : k < M.length := by have := HN2.out; omega
        have jk : (k : Int) < (n : Int) := by omega
        obtain ⟨b1, o1, rfl, u1, E1, C1⟩ := H1.out k hk1
        obtain ⟨b2, o2, rfl, u2, E2, C2⟩ := H2.out k hk2
        have CS := fun W (hW : Below w.heap.size w W) => rsamee_any u1 u2 L[k].2.2 M[k].2.2 W (E1.below hW) (E2.below hW)
        have HNx : Hid (L[k] = M[k] → ∀ j (hj : j < L.length) (hj' : j < M.length), j < k + 1 → L[j] = M[j]) := fun e j hj hj' h => by
          rcases Nat.lt_or_ge j k with h' | h'
          · exact HA.out j hj hj' h'
          · obtain rfl : j = k := by omega
            exact e
        have HNo : Hid (L[k] ≠ M[k] → r = false) := fun e => by rw [← HR.out]; exact samS_no L M (fun h => e (by subst h; rfl))
        obtain ⟨⟨f, t, E⟩, hx⟩ : ∃ x, L[k] = x := ⟨_, rfl⟩
        obtain ⟨⟨f', t', E'⟩, hx'⟩ : ∃ x, M[k] = x := ⟨_, rfl⟩
        rw [hx] at C1 CS HNx HNo
        rw [hx'] at C2 CS HNx HNo
        simp only at C1 C2 CS
        clear hx hx' E1 E2
        have HC1 := Lib.hid C1
        have HC2 := Lib.hid C2
        obtain ⟨x0, x1, x2⟩ := C1 _ hbw
        obtain ⟨y0, y1, y2⟩ := C2 _ hbw
        clear C1 C2
        obtain ⟨sb, hsb⟩ : ∃ b, decide (E = E') = b := ⟨_, rfl⟩
        rw [hsb] at CS
        have HSB : Hid (decide (E = E') = sb) := hsb
        clear hsb
        have S0 : (fun V => Below w.heap.size w V ∧ V.cell? ⟨b1, o1 + k * 3 + 2, none⟩ = some u1 ∧ V.cell? ⟨b2, o2 + k * 3 + 2, none⟩ = some u2) wr.drew := ⟨hbw.drew, x2, y2⟩
        have keepS : ∀ V V' : World, (fun V => Below w.heap.size w V ∧ V.cell? ⟨b1, o1 + k * 3 + 2, none⟩ = some u1 ∧ V.cell? ⟨b2, o2 + k * 3 + 2, none⟩ = some u2) V → Below V.heap.size V V' → (fun V => Below w.heap.size w V ∧ V.cell? ⟨b1, o1 + k * 3 + 2, none⟩ = some u1 ∧ V.cell? ⟨b2, o2 + k * 3 + 2, none⟩ = some u2) V' := fun V V' ⟨a, b, c⟩ d => ⟨bel_trans a d, cell_bel d b, cell_bel d c⟩
        go_wp2_with fail
        go_region_held3 (fun V => Below w.heap.size w V ∧ V.cell? ⟨b1, o1 + k * 3 + 2, none⟩ = some u1 ∧ V.cell? ⟨b2, o2 + k * 3 + 2, none⟩ = some u2) (first | exact S0 | exact keepS _ _ (by assumption) (by assumption)) (first | (go_at_call 41; refine (CS _ (And.left (by assumption))).mono ?_; rintro e' w' ⟨rfl, b8⟩))
        rename_i hHeld8
        have B2 := hHeld8.1
        clear S0 keepS hHeld8 x0 x1 x2 y0 y1 y2
        obtain ⟨x0, x1, x2⟩ := HC1.out _ B2
        obtain ⟨y0, y1, y2⟩ := HC2.out _ B2
        cases sb with
        | false =>
          have HF : Hid (r = false) := HNo.out (fun e => by
            have := of_decide_eq_false HSB.out
            simp only [Prod.mk.injEq] at e
            exact this e.2.2)
          go_wp2_with fail
          go_quiet (fail)
          go_wp2_with fail
          go_ret
          exact ⟨by rw [HF.out]; rfl, below_drewN B2 _⟩
        | true =>
          have hE := of_decide_eq_true HSB.out
          by_cases d1 : f = f'
          · by_cases d2 : t = t'
            · have HX2 := Lib.hid (HNx.out (by rw [d1, d2, hE]))
              subst d1 d2
              go_wp2_with fail
              go_quiet (fail)
              go_wp2_with fail
              refine ⟨⟨k + 1, by omega, by first | go_num | simp, HX2, below_drewN B2 _⟩, by simp [intOf]; omega⟩
            · have HF : Hid (r = false) := HNo.out (fun e => d2 (by simp only [Prod.mk.injEq] at e; exact e.2.1))
              subst d1
              have e2 : (t != t') = true := bne_iff_ne.2 d2
              clear d2
              go_wp2_with fail
              go_quiet (fail)
              go_wp2_with fail
              go_ret
              exact ⟨by rw [HF.out]; rfl, below_drewN B2 _⟩
          · have HF : Hid (r = false) := HNo.out (fun e => d1 (by simp only [Prod.mk.injEq] at e; exact e.1))
            have e1 : (f != f') = true := bne_iff_ne.2 d1
            clear d1
            go_wp2_with fail
            go_quiet (fail)
            go_wp2_with fail
            go_ret
            exact ⟨by rw [HF.out]; rfl, below_drewN B2 _⟩
      · obtain rfl : k = n := by omega
        have j0 : ¬ (k : Int) < (k : Int) := by omega
        have HF : Hid (r = true) := by
          show _ = _
          rw [← HR.out]
          exact (samS_iff L M).2 (List.ext_getElem (by rw [HN.out, HN2.out]) (fun i h1 h2 => HA.out i h1 h2 (by rw [← HN.out]; exact h1)))
        go_wp2_with fail
        go_ret
        exact ⟨by rw [HF.out]; rfl, hbw⟩
  · have HF : Hid (r = false) := by show _ = _; rw [← HR.out]; exact samS_no L M (fun h => hlm (by rw [h]))
    obtain ⟨n, hn⟩ : ∃ n, L.length = n := ⟨_, rfl⟩
    obtain ⟨m, hm⟩ : ∃ n, M.length = n := ⟨_, rfl⟩
    rw [hn, hm] at hlm
    rw [hn, hm]
    have hbne : ((n : Int) != (m : Int)) = true := by rw [bne_iff_ne]; omega
    clear hn hm hlm
    go_enter Try.func19, Try.ntmps19
    go_wp2_with fail
    go_ret
    exact ⟨by rw [HF.out]; rfl, Below.refl _ _⟩
end Go.Proofs.Ytpfpkpaodlmlaaa
