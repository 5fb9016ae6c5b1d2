/-
  What cartouchelaw11.nodes answers.
-/
import Derived.Test.YtpfpkpaodlmlaaaZFwd11
import Derived.Test.YtpfpkpaodlmlaaaGC
import Derived.Maps.AppendAt
import Derived.Lib.Hide
namespace Go.Proofs.Ytpfpkpaodlmlaaa
set_option maxRecDepth 100000
open Go.RowKit
set_option linter.unusedVariables false
set_option linter.unusedSimpArgs false
attribute [local go_sem] ba_size
def nodTo (l : List Stp) (k : Nat) : List Int := nodesL (l.take k)
theorem nodTo_next (l : List Stp) (k : Nat) (hk : k < l.length) : nodTo l (k + 1) = nodTo l k ++ [l[k].1, l[k].2.1] := by
  unfold nodTo nodesL
  rw [List.take_succ_eq_append_getElem hk, List.flatMap_append]
  simp
set_option maxHeartbeats 2000000 in
theorem rnodes11_any (vl : Value) (l : List Stp) (w : World) (hT : IsSts w vl l) (hl9 : l.length ≤ 1000000) :
    Calls Try.prog 22 #[vl] w fun e w' => InRow w (nodesL l) e w' := by
  obtain ⟨i0, hi, hz0, hz1, hz2⟩ := info_parts int_info
  obtain ⟨al, cl, rfl, p1, p2, p3, HL⟩ := hT.reads
  obtain ⟨m, hm⟩ : ∃ m, l.length = m := ⟨_, rfl⟩
  have HM : Hid (l.length = m) := hm
  rw [hm] at p1 p3 hl9 ⊢
  clear hT hm
  go_enter Try.func22, Try.ntmps22
  go_wp2_with fail
  go_loopw [3, 4] (fun r i wr => ∃ (k c : Nat), k ≤ m ∧ c = 2 * k ∧ i = .int .i64 k ∧ Hid ((nodTo l k).length = c) ∧ Below w.heap.size w wr ∧ wr.ownsRow w.heap.size 3 1 r c (recV intV (nodTo l k))) (fun _ i _ => m - (intOf i).toNat)
  case atStart => exact ⟨0, 0, Nat.zero_le _, rfl, rfl, rfl, Below.refl _ _, World.ownsRow_nil _ _ _ _⟩
  case round =>
    obtain ⟨k, c, hk, hck, rfl, HLn, hbw, hrow⟩ := hrel
    by_cases hlt : k < m
    · have hk1 : k < l.length := by have := HM.out; omega
      have jk : (k : Int) < (m : Int) := by omega
      obtain ⟨bs, os, rfl, u, _, C1⟩ := HL.out k hk1
      obtain ⟨⟨f, t, E⟩, hy⟩ : ∃ y, l[k] = y := ⟨_, rfl⟩
      have HNx : Hid (nodTo l (k + 1) = nodTo l k ++ [f, t]) := by show _ = _; rw [nodTo_next l k hk1, hy]
      rw [hy] at C1
      simp only at C1
      have HC1 := Lib.hid C1
      have HCK : Hid (c = 2 * k) := hck
      have hc9 : c ≤ 2000000 := by omega
      clear hy C1 hck
      obtain ⟨DR, hDR⟩ : ∃ d, nodTo l k = d := ⟨_, rfl⟩
      rw [hDR] at hrow HNx HLn
      clear hDR
      obtain ⟨x0, x1, _⟩ := HC1.out _ hbw
      go_wp2_with fail
      refine wp_region_any (by kernel_rfl) ?_
      change wpAny _ _ _ _ _ _ _ (World.drew _)
      generalize hwd : World.drew _ = wd
      have hbd : Below w.heap.size w wd := by rw [← hwd]; exact hbw.drew
      have hrowd : wd.ownsRow w.heap.size 3 1 u3 c (recV intV DR) := by rw [← hwd]; exact hrow
      clear hwd x0 x1
      have sd := hbd.size
      obtain ⟨x0, x1, _⟩ := HC1.out _ hbd
      refine any_of_C (C := fun V => V.cell? ⟨bs, os + k * 3, none⟩ = some (.int .i64 f) ∧ V.cell? ⟨bs, os + k * 3 + 1, none⟩ = some (.int .i64 t)) 13 _ _ _ _ ?_
      refine takeC (i := 0) (v := u3) rfl (by kernel_rfl) (by kernel_rfl) (by kernel_rfl) (by kernel_rfl) (by kernel_rfl) (fun _ _ _ h => h) (Or.inl ⟨by kernel_rfl, fun V hV => by obtain ⟨r0, r1⟩ := hV; go_simp⟩) ?_
      refine takeC (i := 1) (v := .slice (some ⟨bs, os, none⟩) m cl) rfl (by kernel_rfl) (by kernel_rfl) (by kernel_rfl) (by kernel_rfl) (by kernel_rfl) (fun _ _ _ h => h) (Or.inl ⟨by kernel_rfl, fun V hV => by obtain ⟨r0, r1⟩ := hV; go_simp⟩) ?_
      refine takeC (i := 2) (v := .int .i64 (k : Int)) rfl (by kernel_rfl) (by kernel_rfl) (by kernel_rfl) (by kernel_rfl) (by kernel_rfl) (fun _ _ _ h => h) (Or.inl ⟨by kernel_rfl, fun V hV => by obtain ⟨r0, r1⟩ := hV; go_simp⟩) ?_
      refine takeC (i := 3) (v := .pointer (some ⟨bs, os + k * 3, none⟩)) rfl (by kernel_rfl) (by kernel_rfl) (by kernel_rfl) (by kernel_rfl) (by kernel_rfl) (fun _ _ _ h => h) (Or.inl ⟨by kernel_rfl, fun V hV => by obtain ⟨r0, r1⟩ := hV; go_simp⟩) ?_
      refine takeC (i := 4) (v := .pointer (some ⟨bs, os + k * 3, none⟩)) rfl (by kernel_rfl) (by kernel_rfl) (by kernel_rfl) (by kernel_rfl) (by kernel_rfl) (fun _ _ _ h => h) (Or.inl ⟨by kernel_rfl, fun V hV => by obtain ⟨r0, r1⟩ := hV; go_simp⟩) ?_
      refine takeC (i := 5) (v := .int .i64 f) rfl (by kernel_rfl) (by kernel_rfl) (by kernel_rfl) (by kernel_rfl) (by kernel_rfl) (fun _ _ _ h => h) (Or.inl ⟨by kernel_rfl, fun V hV => by obtain ⟨r0, r1⟩ := hV; go_simp⟩) ?_
      refine takeC (i := 6) (v := .slice (some ⟨bs, os, none⟩) m cl) rfl (by kernel_rfl) (by kernel_rfl) (by kernel_rfl) (by kernel_rfl) (by kernel_rfl) (fun _ _ _ h => h) (Or.inl ⟨by kernel_rfl, fun V hV => by obtain ⟨r0, r1⟩ := hV; go_simp⟩) ?_
      refine takeC (i := 7) (v := .int .i64 (k : Int)) rfl (by kernel_rfl) (by kernel_rfl) (by kernel_rfl) (by kernel_rfl) (by kernel_rfl) (fun _ _ _ h => h) (Or.inl ⟨by kernel_rfl, fun V hV => by obtain ⟨r0, r1⟩ := hV; go_simp⟩) ?_
      refine takeC (i := 8) (v := .pointer (some ⟨bs, os + k * 3, none⟩)) rfl (by kernel_rfl) (by kernel_rfl) (by kernel_rfl) (by kernel_rfl) (by kernel_rfl) (fun _ _ _ h => h) (Or.inl ⟨by kernel_rfl, fun V hV => by obtain ⟨r0, r1⟩ := hV; go_simp⟩) ?_
      refine takeC (i := 9) (v := .pointer (some ⟨bs, os + k * 3 + 1, none⟩)) rfl (by kernel_rfl) (by kernel_rfl) (by kernel_rfl) (by kernel_rfl) (by kernel_rfl) (fun _ _ _ h => h) (Or.inl ⟨by kernel_rfl, fun V hV => by obtain ⟨r0, r1⟩ := hV; go_simp⟩) ?_
      refine takeC (i := 10) (v := .int .i64 t) rfl (by kernel_rfl) (by kernel_rfl) (by kernel_rfl) (by kernel_rfl) (by kernel_rfl) (fun _ _ _ h => h) (Or.inl ⟨by kernel_rfl, fun V hV => by obtain ⟨r0, r1⟩ := hV; go_simp⟩) ?_
      refine consC (i := 11) (by kernel_rfl) (by kernel_rfl) ⟨x0, x1⟩ rfl (fun K hK => ?_)
      go_wp2_with fail
      refine consC (i := 12) (by kernel_rfl) (by kernel_rfl) ⟨cell_bel ((Below.refl _ _).alloc (Nat.le_refl _) _) x0, cell_bel ((Below.refl _ _).alloc (Nat.le_refl _) _) x1⟩ rfl (fun K hK => ?_)
      refine wpList_append_own_at _ rfl _ _ 22 rfl w.heap.size 3 i0 (.int .i64 0) 1 8 Try.underlying22 hi hz0 hz1 hz2 rfl (by decide) u3 _ _ rfl (hrowd.alloc _) ⟨wd.heap.size, 0, none⟩ 2 2 [.int .i64 f, .int .i64 t] rfl rfl ?a1 ?a2 ?a3 ?a4 ?a5 ?_
      case a1 => intro j u hj; match j, hj with
        | 0, hj => simp at hj; subst hj; first | (simp [Addr.add]; done) | exact cell_new7 (by simp) rfl
        | 1, hj => simp at hj; subst hj; first | (simp [Addr.add]; done) | exact cell_new7 (by simp) rfl
      case a2 => intro u hu; simp at hu; rcases hu with rfl | rfl <;> rfl
      case a3 => unfold maxLen; omega
      case a4 => omega
      case a5 => simp; omega
      intro r3 w3 own3 g3 _ hat3
      have B3 : Below w.heap.size w w3 := (hbd.alloc sd _).grown g3 (by simp; omega) (fun j hj => (hrowd.lt j hj).1)
      obtain ⟨y0, y1, _⟩ := HC1.out _ B3
      go_wp2_with fail
      refine lastC (by kernel_rfl) (by kernel_rfl) ⟨y0, y1⟩ (of_decide_eq_true (by kernel_rfl)) ?_
      refine any_seqI [13] [_] _ _ _ rfl (by kernel_rfl) ?_
      go_wp2_with fail
      refine ⟨⟨k + 1, c + 2, by omega, by have := HCK.out; omega, by first | go_num | simp, by show _ = _; rw [HNx.out, List.length_append, HLn.out]; rfl, B3, by rw [HNx.out, recV_append]; exact own3⟩, by simp [intOf]; omega⟩
    · obtain rfl : k = m := by omega
      have jk : ¬ (k : Int) < (k : Int) := by omega
      have HE : Hid (nodTo l k = nodesL l) := by show _ = _; unfold nodTo; rw [← HM.out, List.take_length]
      go_wp2_with fail
      go_ret
      refine ⟨_, rfl, hbw, ?_⟩
      rw [← HE.out, HLn.out]
      exact hrow
end Go.Proofs.Ytpfpkpaodlmlaaa
