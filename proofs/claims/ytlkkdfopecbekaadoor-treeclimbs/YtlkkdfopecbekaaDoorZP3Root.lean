/-
  What tree.crownBy and tree.Root answer.
-/
import Derived.Test.YtlkkdfopecbekaaDoorZP3Crown
import Derived.Laws.EntriesVeiled
namespace Go.Proofs.YtlkkdfopecbekaaDoor
set_option maxRecDepth 100000
open Go.RowKit
set_option linter.unusedVariables false
attribute [local go_sem] ba_size
/-- The value that crownBy hands back. -/
abbrev crownF (bS bC : Nat) : Value := .func (.func 54) #[] #[.pointer (some ⟨bS, 0, none⟩), .pointer (some ⟨bC, 0, none⟩)]
theorem crown_pure (bS bC : Nat) (ss : List (List UInt8)) (v : Value) (W : World) (hT : IsTxt W v ss) (h4 : ss.length ≤ 4096) (hG : G W)
    (lS : bS < W.heap.size) (lC : bC < W.heap.size) (cS : W.cell? ⟨bS, 0, none⟩ = some (.func (.func 32) #[] #[])) (cC : W.cell? ⟨bC, 0, none⟩ = some (crownF bS bC)) :
    Calls Tryd.prog 54 #[v, .pointer (some ⟨bS, 0, none⟩), .pointer (some ⟨bC, 0, none⟩)] W fun e W' => e = .returned (.string ⟨(crownL sumL ss).toArray⟩) ∧ Below W.heap.size W W' := by
  have h3 := hG.size
  refine (crown_sum (fun _ W' => Below W.heap.size W W') W bS bC ?_ ?_ ?_ ss.length ss v [] W rfl h4 (by simp; omega) hT (Below.refl _ _)).mono ?_
  · intro pre W' hB
    exact ⟨(hB.cell (p := ⟨bS, 0, none⟩) lS).trans cS, (hB.cell (p := ⟨bC, 0, none⟩) lC).trans cC, hB⟩
  · intro pre W' hB
    exact hB.drew
  · intro pre x W' hB _ hx
    refine (psumL_any x (by omega) W' (hG.below hB (by omega))).mono ?_
    rintro e w2 ⟨rfl, hb⟩
    exact ⟨rfl, bel_trans hB hb⟩
  · rintro e W' ⟨rfl, hB⟩
    exact ⟨rfl, hB⟩
/-- What crownBy leaves: its sum, its closure, in two new cells. -/
def CrownAt (w : World) (f : Value) (e : Ending) (w' : World) : Prop :=
  e = .returned (crownF w.heap.size (w.heap.size + 1)) ∧ w'.heap.size = w.heap.size + 2 ∧ w'.cell? ⟨w.heap.size, 0, none⟩ = some f ∧ w'.cell? ⟨w.heap.size + 1, 0, none⟩ = some (crownF w.heap.size (w.heap.size + 1)) ∧ Below w.heap.size w w'
set_option maxHeartbeats 400000 in
theorem crownBy_any (g : Nat) (cs : Array Value) (w : World) :
    Calls Tryd.prog 33 #[.func (.func g) #[] cs] w fun e w' => CrownAt w (.func (.func g) #[] cs) e w' := by
  go_enter Tryd.func33, Tryd.ntmps33
  go_wp2
  go_ret
  refine ⟨rfl, ?_, ?_, ?_, ?_⟩
  · simp
  · simp
  · simp
  · exact ((Below.refl _ w).alloc (Nat.le_refl _) _).alloc (by simp) _
theorem proot_big (ss : List (List UInt8)) (v : Value) (w : World) (hT : IsTxt w v ss) (hb : 4096 < ss.length) :
    Calls Tryd.prog 14 #[v] w fun e w' => e = .returned (.tuple #[.string ⟨#[]⟩, .int .i64 4]) ∧ Below w.heap.size w w' := by
  obtain ⟨a, cap, rfl, h1, h2, h3⟩ := hT.len
  have i0 : (4096 : Int) < (ss.length : Int) := by omega
  clear hT
  go_enter Tryd.func14, Tryd.ntmps14
  go_wp2_with fail
  go_ret2
  exact ⟨rfl, Below.refl _ _⟩
set_option maxHeartbeats 400000 in
theorem proot_any (ss : List (List UInt8)) (v : Value) (w : World) (hG : G w) (hT : IsTxt w v ss) (hb : ss.length ≤ 4096) :
    Calls Tryd.prog 14 #[v] w fun e w' => e = .returned (.tuple #[.string ⟨(rootL sumL ss).toArray⟩, .int .i64 0]) ∧ Below w.heap.size w w' := by
  have hg3 := hG.size
  have hT0 := hT
  have lc := crownL_le32 sumL sumL_len32 ss
  have HE : Hid (rootL sumL ss = sumL (rootI ss.length (crownL sumL ss))) := (rfl : _ = _)
  obtain ⟨a, cap, rfl, h1, h2, h3⟩ := hT.len
  have hC := fun W hB lS lC cS cC => crown_pure w.heap.size (w.heap.size + 1) ss _ W (hT0.below hB) hb (hG.below hB (by omega)) lS lC cS cC
  obtain ⟨c, hc⟩ : ∃ c, crownL sumL ss = c := ⟨_, rfl⟩
  rw [hc] at hC lc HE
  have hR := fun w1 => prootIn_any ss.length (by omega) c lc w1
  have hl : (rootI ss.length c).length ≤ 50 := by
    unfold rootI
    have := Lm.numL_length ss.length
    have := Lm.cnt_le ss.length
    simp; omega
  obtain ⟨R, hRR⟩ : ∃ R, rootI ss.length c = R := ⟨_, rfl⟩
  rw [hRR] at hR hl HE
  have hS := fun w1 h => psumL_any R (by omega) w1 h
  have i0 : ¬ (4096 : Int) < (ss.length : Int) := by omega
  clear hRR hc hT hT0
  obtain ⟨n, hn⟩ : ∃ n, ss.length = n := ⟨_, rfl⟩
  simp only [hn] at *
  clear hn
  go_enter Tryd.func14, Tryd.ntmps14
  go_wp2_with fail
  refine (crownBy_any _ _ w).mono ?_
  rintro e w1 ⟨rfl, hs1, cS, cC, hb1⟩
  go_wp2_with fail
  refine (hC w1 hb1 (by omega) (by omega) cS cC).mono ?_
  rintro e w2 ⟨rfl, hb2⟩
  have hbw2 := bel_trans hb1 hb2
  go_wp2_with fail
  refine (hR w2).mono ?_
  rintro e w3 ⟨rfl, hb3⟩
  have hbw3 := bel_trans hbw2 hb3
  go_wp2_with fail
  refine (hS w3 (hG.below hbw3 (by omega))).mono ?_
  rintro e w4 ⟨rfl, hb4⟩
  go_wp2_with fail
  go_ret2
  exact ⟨by rw [HE.out]; rfl, bel_trans hbw3 hb4⟩
end Go.Proofs.YtlkkdfopecbekaaDoor
