/-
  What edges.ofKey gathers: the edges of one key.
-/
import Derived.Test.YteehpkkkagdckaaGS
import Derived.Test.YteehpkkkagdckaaZP8Vers
import Derived.Test.YteehpkkkagdckaaZP9At
import Derived.Test.YteehpkkkagdckaaZBads9c
namespace Go.Proofs.Yteehpkkkagdckaa
set_option maxRecDepth 100000
open Go.RowKit Go.Maps
set_option linter.unusedVariables false
attribute [local go_sem] ba_size
theorem g_write (h : List Ev) (V : List Nat) (k : Nat) : gEd h 1 (vAt V k) (vAt V (k + 1)) = (wEdge h V k).toList := by
  unfold gEd wEdge tx
  by_cases e : (ev h (vAt V k)).2.1 = (ev h (vAt V (k + 1))).2.1
  · rw [if_pos e, if_pos e]; rfl
  · rw [if_neg e, if_neg e]; rfl
set_option maxHeartbeats 4000000 in
theorem pofkey_any (h : List Ev) (w : World) (a : Option Addr) (cap : Nat) (hT : IsEvs w (.slice a h.length cap) h) (hG : ∀ x ∈ h, goodE x) (hl : h.length ≤ 300) (v : Value) (L : List Ed) (W : World) (hS : GSt w (.slice a h.length cap) v L W) (key : List UInt8) (hL : L.length ≤ 800000) :
    Calls Try.prog 29 #[.slice a h.length cap, .string ⟨key.toArray⟩, gatF w] W fun e W' => GRes w (.slice a h.length cap) W (L ++ keyEdges h key) e W' := by
  have CV := pvers8_any h (.slice a h.length cap) W key (hT.below hS.below) hG hl
  have CG := fun (k : Int) (p q : Nat) hp hq L' hL' v' W' hS' => pgather_any h w a cap hT v' L' W' hS' k p q hp hq hL'
  have CO := fun (k : Nat) W' (hW' : Below w.heap.size w W') => pouter_any h (.slice a h.length cap) W' (hT.below hW') (k : Int)
  have CR := fun (i : Nat) hi V' vs' Bv hV' hVl v' L' W' hS' hvs' hL' => pofread_any h w a cap hT v' L' W' hS' vs' V' Bv hvs' hV' hVl i hi hL'
  have hvl := vers_len h key
  have hvt := vers_lt h key
  rw [keyEdges_is]
  obtain ⟨V, hVe⟩ : ∃ V, versL h key = V := ⟨_, rfl⟩
  rw [hVe] at CV hvl hvt ⊢
  have HVT : Hid (∀ y ∈ V, y < h.length) := hvt
  obtain ⟨a', cap', e1, h1, h2, h3, HC⟩ := hT.reads
  obtain ⟨rfl, rfl⟩ : a' = a ∧ cap' = cap := by simpa [eq_comm] using e1
  obtain ⟨n, hn⟩ : ∃ n, V.length = n := ⟨_, rfl⟩
  have HN : Hid (V.length = n) := hn
  have HVV : Hid (∀ m, m < n → vAt V m < h.length) := fun m hm => hvt _ (vAt_mem V m (by omega))
  obtain ⟨nh, hnh⟩ : ∃ nh, h.length = nh := ⟨_, rfl⟩
  clear hVe hvt e1 hT hG
  rw [hn] at hvl ⊢
  simp only [hnh] at *
  clear hn hnh
  go_enter Try.func29, Try.ntmps29
  go_wp2_with fail
  refine CV.mono ?_
  rintro e1 w1 ⟨vs, rfl, b1, hv1⟩
  rw [List.length_map, HN.out] at hv1
  have hS1 := hS.bel b1
  have F1 := FrG.of_below b1
  clear CV hS
  obtain ⟨adv, cv, rfl⟩ := own_shape hv1
  have jwn : IntKind.i64.wrap ((n : Int) - 1) = (n : Int) - 1 := by rw [IntKind.wrap_i64]; omega
  go_wp2_with fail
  go_loopw [15] (fun i wr => ∃ (k : Nat) (v' : Value), k ≤ n - 1 ∧ i = .int .i64 k ∧ FrG w1 wr ∧ GSt w (.slice a' nh cap') v' (L ++ wTo h V k) wr) (fun i _ => n - (intOf i).toNat)
  case atStart => exact ⟨0, v, Nat.zero_le _, rfl, FrG.refl _, by rw [show wTo h V 0 = [] from rfl, List.append_nil]; exact hS1⟩
  case round =>
    obtain ⟨k, v', hk, rfl, FK, hSk⟩ := hrel
    have hvk := FK.owns hv1 (by decide) (by decide)
    by_cases hk2 : k + 1 < n
    · have j0 : (k : Int) < (n : Int) - 1 := by omega
      obtain ⟨g, cc, e, k1, k2⟩ := own_some hvk (by omega)
      cases e
      have jk : (k : Int) < (n : Int) := by omega
      have jk1 : (k : Int) + 1 < (n : Int) := by omega
      have jk0 : ¬ (k : Int) + 1 < 0 := by omega
      have jw : IntKind.i64.wrap ((k : Int) + 1) = (k : Int) + 1 := by rw [IntKind.wrap_i64]; omega
      have jt : ((k : Int) + 1).toNat = k + 1 := by omega
      have HX : Hid (wTo h V (k + 1) = wTo h V k ++ gEd h 1 (vAt V k) (vAt V (k + 1))) := by show _ = _; rw [wTo_next, g_write]
      have hwl := wTo_len h V k
      go_wp2_with fail
      refine wp_region_any (by kernel_rfl) ?_
      change wpAny _ _ _ _ _ _ _ (World.drew _)
      generalize hwd : World.drew _ = wd
      have bd : Below wr.heap.size wr wd := by rw [← hwd]; exact (Below.refl _ _).drew
      have hSd := hSk.bel bd
      have hvd := owns_below hvk bd
      have k0 := ver_cell HN.out hvd (by omega : k < n)
      have k9 := ver_cell HN.out hvd hk2
      clear hwd
      refine any_of_C (C := fun U => U.cell? ⟨g, k, none⟩ = some (.int .i64 (vAt V k : Int)) ∧ U.cell? ⟨g, k + 1, none⟩ = some (.int .i64 (vAt V (k + 1) : Int))) 10 _ _ _ _ ?_
      refine takeCC [10] (i := 0) (v := gatF w) rfl (by kernel_rfl) (by kernel_rfl) (by kernel_rfl) (by kernel_rfl) (by kernel_rfl) (by kernel_rfl) (fun _ _ _ h => h) (Or.inl ⟨by kernel_rfl, fun U hU => by obtain ⟨r0, r1⟩ := hU; go_simp⟩) ?_
      refine takeCC [3, 4, 10] (i := 1) (v := .slice (some ⟨g, 0, none⟩) n cv) rfl (by kernel_rfl) (by kernel_rfl) (by kernel_rfl) (by kernel_rfl) (by kernel_rfl) (by kernel_rfl) (fun _ _ _ h => h) (Or.inl ⟨by kernel_rfl, fun U hU => by obtain ⟨r0, r1⟩ := hU; go_simp⟩) ?_
      refine takeCC [3, 4, 10] (i := 2) (v := .int .i64 (k : Int)) rfl (by kernel_rfl) (by kernel_rfl) (by kernel_rfl) (by kernel_rfl) (by kernel_rfl) (by kernel_rfl) (fun _ _ _ h => h) (Or.inl ⟨by kernel_rfl, fun U hU => by obtain ⟨r0, r1⟩ := hU; go_simp⟩) ?_
      refine takeCC [4, 10] (i := 3) (v := .pointer (some ⟨g, k, none⟩)) rfl (by kernel_rfl) (by kernel_rfl) (by kernel_rfl) (by kernel_rfl) (by kernel_rfl) (by kernel_rfl) (fun _ _ _ h => h) (Or.inl ⟨by kernel_rfl, fun U hU => by obtain ⟨r0, r1⟩ := hU; go_simp⟩) ?_
      refine takeCC [10] (i := 4) (v := .int .i64 (vAt V k : Int)) rfl (by kernel_rfl) (by kernel_rfl) (by kernel_rfl) (by kernel_rfl) (by kernel_rfl) (by kernel_rfl) (fun _ _ _ h => h) (Or.inl ⟨by kernel_rfl, fun U hU => by obtain ⟨r0, r1⟩ := hU; go_simp⟩) ?_
      refine takeCC [8, 9, 10] (i := 5) (v := .slice (some ⟨g, 0, none⟩) n cv) rfl (by kernel_rfl) (by kernel_rfl) (by kernel_rfl) (by kernel_rfl) (by kernel_rfl) (by kernel_rfl) (fun _ _ _ h => h) (Or.inl ⟨by kernel_rfl, fun U hU => by obtain ⟨r0, r1⟩ := hU; go_simp⟩) ?_
      refine takeCC [7, 8, 9, 10] (i := 6) (v := .int .i64 (k : Int)) rfl (by kernel_rfl) (by kernel_rfl) (by kernel_rfl) (by kernel_rfl) (by kernel_rfl) (by kernel_rfl) (fun _ _ _ h => h) (Or.inl ⟨by kernel_rfl, fun U hU => by obtain ⟨r0, r1⟩ := hU; go_simp⟩) ?_
      refine takeCC [8, 9, 10] (i := 7) (v := .int .i64 ((k : Int) + 1)) rfl (by kernel_rfl) (by kernel_rfl) (by kernel_rfl) (by kernel_rfl) (by kernel_rfl) (by kernel_rfl) (fun _ _ _ h => h) (Or.inl ⟨by kernel_rfl, fun U hU => by obtain ⟨r0, r1⟩ := hU; go_simp⟩) ?_
      refine takeCC [9, 10] (i := 8) (v := .pointer (some ⟨g, k + 1, none⟩)) rfl (by kernel_rfl) (by kernel_rfl) (by kernel_rfl) (by kernel_rfl) (by kernel_rfl) (by kernel_rfl) (fun _ _ _ h => h) (Or.inl ⟨by kernel_rfl, fun U hU => by obtain ⟨r0, r1⟩ := hU; go_simp⟩) ?_
      refine takeCC [10] (i := 9) (v := .int .i64 (vAt V (k + 1) : Int)) rfl (by kernel_rfl) (by kernel_rfl) (by kernel_rfl) (by kernel_rfl) (by kernel_rfl) (by kernel_rfl) (fun _ _ _ h => h) (Or.inl ⟨by kernel_rfl, fun U hU => by obtain ⟨r0, r1⟩ := hU; go_simp⟩) ?_
      refine lastC (by kernel_rfl) (by kernel_rfl) ⟨k0, k9⟩ (of_decide_eq_true (by kernel_rfl)) ?_
      refine any_seqI [10] [_] _ _ _ rfl (by kernel_rfl) ?_
      go_wp2_with fail
      refine (CG 1 (vAt V k) (vAt V (k + 1)) (HVV.out k (by omega)) (HVV.out (k + 1) hk2) _ (by rw [List.length_append]; omega) _ _ hSd).mono ?_
      rintro e4 w4 ⟨rfl, fr4, v4, hS4⟩
      go_wp2_with fail
      refine ⟨⟨k + 1, v4, by omega, by first | go_num | simp, FK.trans ((FrG.of_below bd).trans fr4), by rw [HX.out, ← List.append_assoc]; exact hS4⟩, by simp [intOf]; omega⟩
    · have j0 : ¬ (k : Int) < (n : Int) - 1 := by omega
      obtain rfl : k = n - 1 := by omega
      have HB : Hid (Below w.heap.size w wr) := hSk.below
      have hwl := wTo_len h V (n - 1)
      obtain ⟨w2, rfl⟩ : ∃ w2, w2 = wr := ⟨_, rfl⟩
      obtain ⟨L2, hL2⟩ : ∃ L2, L ++ wTo h V (n - 1) = L2 := ⟨_, rfl⟩
      have HL2 : Hid (L ++ wTo h V (n - 1) = L2) := hL2
      have hL2l : L2.length ≤ 800300 := by rw [← hL2, List.length_append]; omega
      rw [hL2] at hSk
      clear hL2 hS1
      go_wp2_with fail
      go_loopw [32] (fun i wr => ∃ (k : Nat) (v' : Value), k ≤ nh ∧ i = .int .i64 k ∧ FrG w1 wr ∧ GSt w (.slice a' nh cap') v' (L2 ++ rTo h key V k) wr) (fun i _ => nh - (intOf i).toNat)
      case atStart => exact ⟨0, v', Nat.zero_le _, rfl, FK, by rw [show rTo h key V 0 = [] from rfl, List.append_nil]; exact hSk⟩
      case round =>
        obtain ⟨q, v5, hq, rfl, FQ, hSq⟩ := hrel
        have hvq := FQ.owns hv1 (by decide) (by decide)
        by_cases hlt : q < nh
        · have j1 : (q : Int) < (nh : Int) := by omega
          obtain ⟨bb, off, rfl, HQ⟩ := HC.out (by omega)
          obtain ⟨_, _, c2, _⟩ := HQ.out q hlt _ hSq.below
          have HR : Hid (rTo h key V (q + 1) = rTo h key V q ++ rOf h key V q) := rTo_next h key V q
          have hrl := rTo_len h key V q
          by_cases hke : (ev h q).2.2.1 = key
          · rw [hke] at c2
            have D := CO q _ hSq.below
            rw [outerI_nat] at D
            cases ho : outerB h q with
            | true =>
              rw [ho] at D
              have HO : Hid (rOf h key V q = rdEdges h V q) := by show _ = _; unfold rOf readOf; rw [ho, decide_eq_true hke]; rfl
              clear ho hke
              go_wp2_with fail
              refine D.mono ?_
              rintro e4 w4 ⟨rfl, b4⟩
              have hS4 := hSq.bel b4
              have hv4 := owns_below hvq b4
              go_wp2_with fail
              refine (CR q hlt V _ _ HVT.out (by have := HN.out; omega) _ _ _ hS4 (by rw [HN.out]; exact hv4) (by rw [List.length_append]; omega)).mono ?_
              rintro e5 w5 ⟨rfl, fr5, v6, hS5⟩
              go_wp2_with fail
              refine ⟨⟨q + 1, v6, by omega, by first | go_num | simp, FQ.trans ((FrG.of_below b4).trans fr5), by rw [HR.out, HO.out, ← List.append_assoc]; exact hS5⟩, by simp [intOf]; omega⟩
            | false =>
              rw [ho] at D
              have HO : Hid (rOf h key V q = []) := by show _ = _; unfold rOf readOf; rw [ho, Bool.and_false]; rfl
              clear ho hke
              go_wp2_with fail
              refine D.mono ?_
              rintro e4 w4 ⟨rfl, b4⟩
              have hS4 := hSq.bel b4
              go_wp2_with fail
              refine ⟨⟨q + 1, v5, by omega, by first | go_num | simp, FQ.trans (FrG.of_below b4), by rw [HR.out, HO.out, List.append_nil]; exact hS4⟩, by simp [intOf]; omega⟩
          · have HO : Hid (rOf h key V q = []) := by show _ = _; unfold rOf readOf; rw [decide_eq_false hke, Bool.false_and]; rfl
            obtain ⟨y, hy⟩ : ∃ y, (ev h q).2.2.1 = y := ⟨_, rfl⟩
            rw [hy] at c2 hke
            have s2 : (y == key) = false := beq_eq_false_iff_ne.2 hke
            have s4 : decide (y = key) = false := decide_eq_false hke
            clear hy
            go_wp2_with fail
            refine ⟨⟨q + 1, v5, by omega, by first | go_num | simp, FQ, by rw [HR.out, HO.out, List.append_nil]; exact hSq⟩, by simp [intOf]; omega⟩
        · obtain rfl : q = nh := by omega
          have j1 : ¬ (q : Int) < (q : Int) := by omega
          go_wp2_with fail
          go_end0
          exact ⟨rfl, F1.trans FQ, v5, by rw [← List.append_assoc, HL2.out]; exact hSq⟩
end Go.Proofs.Yteehpkkkagdckaa
