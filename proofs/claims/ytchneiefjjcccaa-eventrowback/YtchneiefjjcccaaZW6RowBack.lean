/-
  The walk of EventRowBack.
-/
import Derived.Test.YtchneiefjjcccaaZShown6
import Derived.Test.YtchneiefjjcccaaZEvent3
import Derived.Test.YtchneiefjjcccaaZR6Same
import Derived.Deep.RegionHeld3
import Derived.BigQuiet
import Derived.Deep.QuietTactic
namespace Go.Proofs.Ytchneiefjjcccaa
set_option maxRecDepth 100000
open Go.RowKit
set_option linter.unusedVariables false
attribute [local go_sem] ba_size ba_append ba_get ba_extract
set_option maxHeartbeats 4000000 in
theorem rowback6_walk (C : P6C) (w : World) (vh : Value) (h : List Ev) (Th : IsEvs w vh h) (Gh : ∀ x ∈ h, goodE x) :
    Calls Try.prog 7 #[vh] w fun e w' => e = .returned (.bool true) ∧ Below w.heap.size w w' := by
  have HSh : Hid (∀ W, Below w.heap.size w W → Calls Try.prog 10 #[] W fun e w' => e = .returned (.bool true) ∧ Below W.heap.size W w') := fun W _ => shown6_any C W
  have HL : Hid (∀ W, Below w.heap.size w W → Calls Try.prog 17 #[vh] W fun e w' => TxRes W (leavesE h) e w') := fun W h' => C.leaves h vh W (Th.below h') Gh
  by_cases hbig : 256 < h.length
  · rw [leavesE_big h hbig] at HL
    clear hbig
    obtain ⟨a, cap, rfl, _⟩ := Th.some_at
    go_enter Try.func7, Try.ntmps7
    go_wp2_with fail
    refine (HSh.out _ (Below.refl w.heap.size w)).mono ?_
    rintro e w1 ⟨rfl, b1⟩
    have B1 := bel_trans (Below.refl w.heap.size w) b1
    go_wp2_with fail
    refine (HL.out _ B1).mono ?_
    rintro e w2 hres
    obtain ⟨vl, rfl, b2, own2⟩ := hres
    have B2 := bel_trans B1 b2
    go_wp2_with fail
    go_ret
    exact ⟨rfl, B2⟩
  · by_cases ha : allMay h
    · rw [leavesE_ok h hbig ha] at HL
      have hbk := back_leaves h hbig ha
      obtain ⟨L, hL⟩ : ∃ L, h.map bytE = L := ⟨_, rfl⟩
      have HLL : Hid (L.length = h.length) := by show _ = _; rw [← hL, List.length_map]
      have e1 : ((L.length : Int) == (h.length : Int)) = true := by rw [HLL.out]; exact beq_self_eq_true _
      have l256 : L.length ≤ 256 := by have := HLL.out; omega
      have bL : ∀ s ∈ L, s.length ≤ 80 := fun s hs => by
        rw [← hL] at hs
        obtain ⟨x, hx, rfl⟩ := List.mem_map.1 hs
        exact (bytE_len x (ha x hx)).1
      rw [hL] at HL hbk
      clear hL ha
      have HBk : Hid (∀ v W, IsTxt W v L → Calls Try.prog 19 #[v] W fun e w' => EvRes 23 W (h, 0) e w') := fun v W hT => by
        have := C.back L v W hT (fun s hs => by have := bL s hs; omega)
        rw [hbk] at this
        exact this
      have HSa : Hid (∀ v W, Below w.heap.size w W → IsEvs W v h → Calls Try.prog 22 #[vh, v] W fun e w' => e = .returned (.bool true) ∧ Below W.heap.size W w') := fun v W hb hv => by
        have := rsame6_any vh v h h W (Th.below hb) hv
        rw [decide_eq_true rfl] at this
        exact this
      obtain ⟨a, cap, rfl, _⟩ := Th.some_at
      clear hbk
      go_enter Try.func7, Try.ntmps7
      go_wp2_with fail
      refine (HSh.out _ (Below.refl w.heap.size w)).mono ?_
      rintro e w1 ⟨rfl, b1⟩
      have B1 := bel_trans (Below.refl w.heap.size w) b1
      go_wp2_with fail
      refine (HL.out _ B1).mono ?_
      rintro e w2 hres
      obtain ⟨vl, rfl, b2, own2⟩ := hres
      have B2 := bel_trans B1 b2
      have T2 : IsTxt w2 vl L := IsTxt.own own2 (by show L.length ≤ _; omega) (fun s hs => by have := bL s hs; omega)
      obtain ⟨al, cl, rfl, _⟩ := T2.some_at
      go_wp2_with fail
      refine (HBk.out _ w2 T2).mono ?_
      rintro e w3 hres3
      obtain ⟨vk, rfl, b3, own3⟩ := hres3
      have B3 := bel_trans B2 b3
      have T3 : IsEvs w3 vk h := IsRec.own evV_len (by omega) own3 (by show h.length ≤ _; omega)
      obtain ⟨ak, ck, rfl, _⟩ := T3.some_at
      go_wp2_with fail
      refine (HSa.out _ w3 B3 T3).mono ?_
      rintro e w4 ⟨rfl, b4⟩
      have B4 := bel_trans B3 b4
      skip
      go_wp2_with fail
      go_ret
      exact ⟨rfl, B4⟩
    · have hx : leavesE h = ([], 1) := by unfold leavesE; rw [if_neg hbig, if_neg ha]
      rw [hx] at HL
      clear hx ha hbig
      obtain ⟨a, cap, rfl, _⟩ := Th.some_at
      go_enter Try.func7, Try.ntmps7
      go_wp2_with fail
      refine (HSh.out _ (Below.refl w.heap.size w)).mono ?_
      rintro e w1 ⟨rfl, b1⟩
      have B1 := bel_trans (Below.refl w.heap.size w) b1
      go_wp2_with fail
      refine (HL.out _ B1).mono ?_
      rintro e w2 hres
      obtain ⟨vl, rfl, b2, own2⟩ := hres
      have B2 := bel_trans B1 b2
      go_wp2_with fail
      go_ret
      exact ⟨rfl, B2⟩
end Go.Proofs.Ytchneiefjjcccaa
