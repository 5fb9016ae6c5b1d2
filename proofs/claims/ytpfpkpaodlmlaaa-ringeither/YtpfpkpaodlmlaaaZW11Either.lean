/-
  The walk of RingEither.
-/
import Derived.Test.YtpfpkpaodlmlaaaZShown11
import Derived.Test.YtpfpkpaodlmlaaaZFwd11
import Derived.Test.YtpfpkpaodlmlaaaZNodes11
import Derived.Deep.RegionHeld3
import Derived.BigQuiet
import Derived.Deep.QuietTactic
import Derived.Lib.Hide
namespace Go.Proofs.Ytpfpkpaodlmlaaa
set_option maxRecDepth 100000
open Go.RowKit
set_option linter.unusedVariables false
attribute [local go_sem] ba_size ba_append ba_get ba_extract
set_option maxHeartbeats 4000000 in
theorem either11_walk {nb lb : Nat} (C : P11C nb lb) (hnb : 300 ≤ nb) (hlb : 120 ≤ lb) (w : World) (vl : Value) (l : List Stp) (Tl : IsSts w vl l) (Sl : Shp vl) (Gl : ∀ x ∈ l, goodSt x) :
    Calls Try.prog 5 #[vl] w fun e w' => e = .returned (.bool true) ∧ Below w.heap.size w w' := by
  have HSh : Hid (∀ W, Below w.heap.size w W → Calls Try.prog 10 #[] W fun e w' => e = .returned (.bool true) ∧ Below W.heap.size W w') := fun W h => shown11_any C (by omega) (by omega) W
  by_cases h1 : l.length ≤ 60
  · skip
    have HN : Hid (∀ W, Below w.heap.size w W → Calls Try.prog 22 #[vl] W fun e w' => InRow W (nodesL l) e w') := fun W hb => rnodes11_any vl l W (Tl.below hb) (by omega)
    have HO : Hid (∀ vn W, IsInts W vn (nodesL l) → Shp vn → Below w.heap.size w W → Calls Try.prog 12 #[vn, vl] W fun e w' => OrdRes W (orderL (nodesL l) l) e w') := fun vn W hT hS hb => C.order (nodesL l) l vn vl W hT hS (fun x hx => by obtain ⟨s, hs, h⟩ := List.mem_flatMap.1 hx; simp at h; rcases h with rfl | rfl; exact (Gl s hs).1; exact (Gl s hs).2.1) (Tl.below hb) Sl Gl (by rw [nodes_len]; omega) (by omega)
    have HR : Hid (∀ W, Below w.heap.size w W → Calls Try.prog 17 #[vl] W fun e w' => RingRes 37 W (ringL l) e w') := fun W hb => C.ring l vl W (Tl.below hb) Sl Gl (by omega)
    have HCl : Hid (∀ (r : List Stp) vr W, IsSts W vr r → Shp vr → (∀ x ∈ r, x ∈ l) → r.length ≤ 120 → Calls Try.prog 20 #[vr] W fun e w' => e = .returned (.bool (clB r)) ∧ Below W.heap.size W w') := fun r vr W hT hS hm hl => C.closed r vr W hT hS (fun x hx => Gl x (hm x hx)) (by omega)
    have HFw : Hid (∀ (o : List Int) vo W, IsInts W vo o → Shp vo → (∀ x ∈ o, x ∈ nodesL l) → o.length ≤ 300 → Below w.heap.size w W → Calls Try.prog 15 #[vo, vl] W fun e w' => e = .returned (.bool (fwdB o l)) ∧ Below W.heap.size W w') := fun o vo W hT hS hm hl hb => C.forward o l vo vl W hT hS (fun x hx => by obtain ⟨s, hs, h⟩ := List.mem_flatMap.1 (hm x hx); simp at h; rcases h with rfl | rfl; exact (Gl s hs).1; exact (Gl s hs).2.1) (Tl.below hb) Sl Gl (by omega) (by omega)
    have hei := ring_either l
    have nl9 : (nodesL l).length ≤ 120 := by rw [nodes_len]; omega
    obtain ⟨NL, hNL⟩ : ∃ y, nodesL l = y := ⟨_, rfl⟩
    have HNL : Hid (nodesL l = NL) := hNL
    cases hr : ringL l with
    | some r =>
      have hno : orderL (nodesL l) l = none := by
        cases ho : orderL (nodesL l) l with
        | none => rfl
        | some o => rw [hr] at hei; exact absurd (hei.1 ⟨o, ho⟩) (by simp)
      obtain ⟨g1, g2, _⟩ := ring_some l r hr
      have HCB : Hid (clB r = true) := closed_cl r g1
      have HMr : Hid (∀ x ∈ r, x ∈ l) := g2
      have hrl : r.length ≤ 60 := by
        rcases ringL_few l r hr with h | h
        · omega
        · subst h; cases hr
      rw [hr] at HR
      rw [hno] at HO
      rw [hNL] at HN HO nl9
      clear hei hr hno g1 g2 hNL
      obtain ⟨al, cl, rfl, il, jl, kl⟩ := Tl.len
      obtain ⟨nl, hnl⟩ : ∃ nl, l.length = nl := ⟨_, rfl⟩
      have j1 : ¬ (60 : Int) < (nl : Int) := by omega
      rw [hnl] at Tl HN HO HR HFw ⊢
      have h1' : nl ≤ 60 := by omega
      clear hnl
      go_enter Try.func5, Try.ntmps5
      go_wp2_with fail
      refine (HSh.out _ (Below.refl w.heap.size w)).mono ?_
      rintro e w1 ⟨rfl, b1⟩
      have B1 := bel_trans (Below.refl w.heap.size w) b1
      go_wp2_with fail
      refine (HN.out _ B1).mono ?_
      rintro e w2 hres2
      obtain ⟨u_n, rfl, b2, o_n⟩ := hres2
      have B2 := bel_trans B1 b2
      have T_n := ints_own (l := NL) o_n (by omega)
      obtain ⟨a_n, c_n, rfl, i_n, j_n, _, HC_n⟩ := T_n.some_at
      have Sn := Shp.own o_n
      go_wp2_with fail
      refine (HO.out _ _ T_n Sn B2).mono ?_
      rintro e w3 hres3
      obtain ⟨u_o, rfl, b3, o_o⟩ := hres3
      have B3 := bel_trans B2 b3
      have T_o := ints_own (l := []) o_o (by first | omega | (simp; done) | (simp only [Option.getD_some]; omega))
      obtain ⟨a_o, c_o, rfl, i_o, j_o, _, _⟩ := T_o.some_at
      go_wp2_with fail
      refine (HR.out _ B3).mono ?_
      rintro e w4 hres4
      obtain ⟨u_r, L_r, rfl, b4, o_r, so_r⟩ := hres4
      have B4 := bel_trans B3 b4
      have T_r := IsSts.own o_r so_r (by rw [so_r.1]; simp only [Option.getD_some]; omega)
      obtain ⟨a_r, c_r, rfl, i_r, j_r, _⟩ := T_r.len
      have D := HCl.out r _ _ T_r (Shp.own o_r) HMr.out (by omega)
      rw [HCB.out] at D
      go_wp2_with fail
      refine D.mono ?_
      rintro e w5 ⟨rfl, b5⟩
      have B5 := bel_trans B4 b5
      go_wp2_with fail
      go_ret
      exact ⟨rfl, B5⟩
    | none =>
      obtain ⟨o, ho⟩ : ∃ o, orderL (nodesL l) l = some o := hei.2 hr
      obtain ⟨g1, g2, _⟩ := orderF_some l (nodesL l).length (nodesL l) o (Nat.le_refl _) ho
      have HFB : Hid (fwdB o l = true) := order_fwd (nodesL l) o l ho
      have HMo : Hid (∀ x ∈ o, x ∈ NL) := fun x hx => by rw [← HNL.out]; exact (g2 x).1 hx
      have hol : o.length ≤ 120 := by have := orderF_few l (nodesL l).length (nodesL l) o ho; omega
      rw [hr] at HR
      rw [ho] at HO
      rw [hNL] at HN HO HFw nl9
      clear hei hr ho g1 g2 hNL
      obtain ⟨al, cl, rfl, il, jl, kl⟩ := Tl.len
      obtain ⟨nl, hnl⟩ : ∃ nl, l.length = nl := ⟨_, rfl⟩
      have j1 : ¬ (60 : Int) < (nl : Int) := by omega
      rw [hnl] at Tl HN HO HR HFw ⊢
      have h1' : nl ≤ 60 := by omega
      clear hnl
      go_enter Try.func5, Try.ntmps5
      go_wp2_with fail
      refine (HSh.out _ (Below.refl w.heap.size w)).mono ?_
      rintro e w1 ⟨rfl, b1⟩
      have B1 := bel_trans (Below.refl w.heap.size w) b1
      go_wp2_with fail
      refine (HN.out _ B1).mono ?_
      rintro e w2 hres2
      obtain ⟨u_n, rfl, b2, o_n⟩ := hres2
      have B2 := bel_trans B1 b2
      have T_n := ints_own (l := NL) o_n (by omega)
      obtain ⟨a_n, c_n, rfl, i_n, j_n, _, HC_n⟩ := T_n.some_at
      have Sn := Shp.own o_n
      go_wp2_with fail
      refine (HO.out _ _ T_n Sn B2).mono ?_
      rintro e w3 hres3
      obtain ⟨u_o, rfl, b3, o_o⟩ := hres3
      have B3 := bel_trans B2 b3
      have T_o := ints_own (l := o) o_o (by first | omega | (simp; done) | (simp only [Option.getD_some]; omega))
      have So := Shp.own o_o
      obtain ⟨a_o, c_o, rfl, i_o, j_o, _, _⟩ := T_o.some_at
      go_wp2_with fail
      refine (HR.out _ B3).mono ?_
      rintro e w4 hres4
      obtain ⟨u_r, L_r, rfl, b4, o_r, so_r⟩ := hres4
      have B4 := bel_trans B3 b4
      replace T_o := T_o.below b4
      have T_r := IsSts.own o_r so_r (by rw [so_r.1]; simp)
      obtain ⟨a_r, c_r, rfl, i_r, j_r, _⟩ := T_r.len
      have D := HFw.out o _ _ T_o So HMo.out (by omega) B4
      rw [HFB.out] at D
      go_wp2_with fail
      refine D.mono ?_
      rintro e w5 ⟨rfl, b5⟩
      have B5 := bel_trans B4 b5
      go_wp2_with fail
      go_ret
      exact ⟨rfl, B5⟩
  · skip
    obtain ⟨al, cl, rfl, il, jl, kl⟩ := Tl.len
    obtain ⟨nl, hnl⟩ : ∃ nl, l.length = nl := ⟨_, rfl⟩
    have j1 : (60 : Int) < (nl : Int) := by omega
    rw [hnl] at Tl ⊢
    clear hnl
    go_enter Try.func5, Try.ntmps5
    go_wp2_with fail
    refine (HSh.out _ (Below.refl w.heap.size w)).mono ?_
    rintro e w1 ⟨rfl, b1⟩
    have B1 := bel_trans (Below.refl w.heap.size w) b1
    go_wp2_with fail
    go_ret
    exact ⟨rfl, B1⟩
end Go.Proofs.Ytpfpkpaodlmlaaa
