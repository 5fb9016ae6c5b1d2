/-
  Whenever Check takes two unlike texts at one place of one root, Clash gives two unlike texts of one sum: TreeClash is true, the tables being as the program's text lays them.
-/
import Derived.Test.YtlkkdfopecbekaaDoorRows
import Derived.Test.YtlkkdfopecbekaaDoorCards
import Derived.Test.YtlkkdfopecbekaaDoorTie
import Derived.Test.YtlkkdfopecbekaaDoorZLaid2
import Derived.Test.YtlkkdfopecbekaaDoorZOpen3
import Derived.Test.YtlkkdfopecbekaaDoorZOpenN
import Derived.Test.YtlkkdfopecbekaaDoorZWClash
import Derived.WalkKit
import Derived.ProofKit
import Derived.OpenShut
import Derived.ShutString
import Derived.ChangeOld
import Derived.Below
import Derived.SizedLaws
import Derived.LaidMore
import Derived.Stop.Joined
import Derived.SevenTiedAt
import Derived.Lib.SmallJoins
namespace Go.Proofs.YtlkkdfopecbekaaDoor
set_option maxRecDepth 100000
open Go.ChangeShapes Go.WideShapes Go.ChangeAt Go.RowKit
open Go.ChangeMaps (open_string shut_string)
set_option linter.unusedVariables false

theorem treeClash_own : ownKnob Tryd.prog.godebug = none := by kernel_rfl
theorem treeClash_laidOut : laidOutB Tryd.prog = true := by kernel_rfl
set_option maxRecDepth 100000 in
theorem treeClash_lifted (os : Os) (started : os.Started) (H : Type) (enc : TypeId × Value → H) :
    ReturnsInHanded {} Tryd.checked os 7 .any (fun w args => (Rows.treeClashSpec.pre enc Tryd.prog Tryd.f7 [] false w args ∧ laidMetH Tryd.prog laid3 w) ∧ sizedMet enc Tryd.prog Tryd.f7 (OpenSpec.ofChange Rows.treeClashSpec) false w args)
      (Rows.treeClashSpec.post enc Tryd.prog Tryd.f7 false true false false) := by
  refine returnsInHanded_of_change_and (C := Tryd.checked) (X := fun w _ => laidMetH Tryd.prog laid3 w) (fun _ _ _ hh h => h.of_heap hh) treeClash_own started (by kernel_rfl) Tryd.func7
    (ChangeSpec.witness_shaped (enc := enc) (C := Tryd.checked) (os := os) (X := fun w _ => laidMetH Tryd.prog laid3 w) false (World.doorLaid Tryd.prog 400 os) #[.agg #[.string ByteArray.empty, .int .i64 0, .int .i64 0, .string ByteArray.empty, .slice none 0 0, .string ByteArray.empty, .slice none 0 0]] 8 rfl (World.shaped_of_RefB (by kernel_rfl) (by kernel_rfl)) (by kernel_rfl) (by kernel_rfl) (by kernel_rfl) (door_met2 os _)) ?_
  intro W base args ds gs before hval0 hW _ hsz0 hL _
  have hval : ∀ (j : Nat) t v, Tryd.f7.params[j]? = some t → args[j]? = some v → Value.okWide Tryd.prog W .any base t v := hval0
  have hsz : (DataW.weightsEach Tryd.prog (Tryd.f7.params.toList ++ Rows.treeClashSpec.plain.varTypes Tryd.prog) (ds ++ gs)).all (· ≤ reachBytes) = true := hsz0
  have hW' := hW
  obtain ⟨p, q, hA0, hV, rfl, hfz, hnd⟩ := hW
  have hA : DataW.TrodAll enc Tryd.prog W 0 (fun _ => true) true Tryd.f7.params.toList args.toList ds p := hA0
  rw [Tryd.params7] at hA hval hsz
  obtain ⟨v0, vs0, d0, ds0, p0, q0, hargs, rfl, rfl, h0, r0⟩ := trodAll_cons hA
  obtain ⟨rfl, rfl, rfl⟩ := trodAll_nil r0
  obtain rfl : args = #[v0] := by cases args; simp_all
  obtain ⟨rfl, rfl⟩ := trodVars_none hV
  have k0 := h0
  have lt0 : ∀ x ∈ p0, x.block < W.heap.size := by obtain ⟨m, hm⟩ := k0; exact DataW.trod_lt m _ _ _ hm
  have hG : G W := of_laid hL
  obtain ⟨c0, c1, c2, c3, c4, c5, c6, y0, y1, y2, y3, y4, y5, y6, m, rfl, rfl, hy0, hy1, hy2, hy3, hy4, hy5, hy6⟩ := openS7 Tryd.underlying55 (by kernel_rfl) (by kernel_rfl) (hval 0 55 v0 rfl rfl) h0
  obtain ⟨sR, e0, rfl, _⟩ := DataW.trod_string Tryd.underlying9 hy0
  obtain ⟨nN, e1, rfl, wfN⟩ := DataW.trod_int Tryd.underlying3 hy1
  obtain ⟨nI, e2, rfl, wfI⟩ := DataW.trod_int Tryd.underlying3 hy2
  obtain ⟨sA, e3, rfl, _⟩ := DataW.trod_string Tryd.underlying9 hy3
  obtain ⟨sB, e5, rfl, _⟩ := DataW.trod_string Tryd.underlying9 hy5
  simp at e0 e1 e2 e3 e5
  subst e0 e1 e2 e3 e5
  have hz : (DataW.weightsEach Tryd.prog [55] [(.agg [.lit (.string sR.data.toList), .lit (.int .i64 nN), .lit (.int .i64 nI), .lit (.string sA.data.toList), y4.1, .lit (.string sB.data.toList), y6.1] : DataW H)]).all (· ≤ reachBytes) = true := hsz
  simp only [DataW.weightsEach, DataW.weights, Tryd.underlying55, List.map_cons, List.map_nil, List.append_nil, List.nil_append, List.all_append, List.all_cons, List.all_nil, Bool.and_true, Bool.and_eq_true] at hz
  obtain ⟨z0, z3, z4, z5, z6⟩ := hz
  have lR : sR.data.toList.length ≤ 140737488351232 := of_decide_eq_true z0
  have lA : sA.data.toList.length ≤ 140737488351232 := of_decide_eq_true z3
  obtain ⟨tP, TP, BP⟩ := txt_cells (d := y4.1) (p := y4.2) hy4 z4
  have lB : sB.data.toList.length ≤ 140737488351232 := of_decide_eq_true z5
  obtain ⟨tQ, TQ, BQ⟩ := txt_cells (d := y6.1) (p := y6.2) hy6 z6
  have wk := clash_walk W sR.data.toList lR nN nI sA.data.toList lA _ tP TP BP sB.data.toList lB _ tQ TQ BQ hG
  rw [← ba_of sR, ← ba_of sA, ← ba_of sB] at wk
  clear hA0 hval0
  refine (wk).mono fun e W' ⟨he, bel⟩ => ?_
  subst he
  exact ⟨_, rfl, _, _, _, [], _, [], hW', trodAll_mk1 (shut_bool Tryd.underlying4 _), (trodAll_cons_mk (Below.trod treeClash_laidOut (by kernel_rfl) (of_decide_eq_true (by kernel_rfl)) k0 bel lt0) trodAll_mk0), rfl, bel.frame _, fun h => by cases h⟩

theorem treeClash_said : Rows.TreeClashSaid :=
  OpenClaim.holds_of_wide 7 Tryd.f7 rfl rfl rfl rfl rfl rfl rfl ⟨rfl, rfl, rfl, rfl, rfl⟩ rfl rfl rfl rfl rfl (by kernel_rfl) Tryd.func7 (by kernel_rfl)
    (of_decide_eq_true (by kernel_rfl)) (by unfold Func.isWrapper; first | (rw [if_pos (by decide +kernel)]; kernel_rfl) | (rw [if_neg (by decide +kernel)]; exact ⟨rfl, rfl⟩))
    (fun os started H enc _ => treeClash_lifted os started H enc)
theorem treeClash_holds : Rows.TreeClashCardSaid :=
  Claim7.holds_tied_plain_at .later [] _ _ _ _
    treeClash_said (fun _ h => by cases h) (by kernel_rfl) (fun _ h => by cases h) treeClash_row_tie rfl ⟨rfl, rfl⟩ (by kernel_rfl) rfl
    (fun f fn hf hfn => by
      obtain rfl : f = 7 := Option.some.inj ((show Tryd.prog.funcNamed "cartouche/cartouchelaw03.TreeClash" = some 7 by kernel_rfl).symm.trans hf) |>.symm
      obtain rfl : fn = Tryd.f7 := (Option.some.inj (Tryd.func7.symm.trans hfn)).symm
      exact ⟨by kernel_rfl, fun j t ht => by
        rw [Tryd.params7] at ht
        have hm : t ∈ [55] := by simpa using Array.mem_of_getElem? ht
        have hall : ([55].all fun u => !Tryd.prog.wantsStandIn u) = true := by kernel_rfl
        exact (show Tryd.prog.wantsStandIn t = false by simpa using List.all_eq_true.1 hall t hm)⟩)
    (by kernel_rfl)
#print axioms treeClash_holds
end Go.Proofs.YtlkkdfopecbekaaDoor
