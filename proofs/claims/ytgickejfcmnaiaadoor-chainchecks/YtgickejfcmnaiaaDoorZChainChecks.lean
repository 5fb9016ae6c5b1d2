/-
  For every links and head, and every two rows of bodies (few), whether links are chained, and what the rows give away, is the document's: ChainChecks is true, the tables being as the program's text lays them.
-/
import Derived.Test.YtgickejfcmnaiaaDoorRows
import Derived.Test.YtgickejfcmnaiaaDoorCards
import Derived.Test.YtgickejfcmnaiaaDoorTie
import Derived.Test.YtgickejfcmnaiaaDoorZLaid2
import Derived.Test.YtgickejfcmnaiaaDoorZOpen4
import Derived.Test.YtgickejfcmnaiaaDoorZOpenN
import Derived.Test.YtgickejfcmnaiaaDoorZW4Checks
import Derived.WalkKit
import Derived.ProofKit
import Derived.OpenShut
import Derived.ShutString
import Derived.ChangeOld
import Derived.Below
import Derived.SizedLaws
import Derived.LaidMore
import Derived.Stop.Joined
import Derived.SevenTiedAt
import Derived.Lib.SmallJoins
namespace Go.Proofs.YtgickejfcmnaiaaDoor
set_option maxRecDepth 100000
open Go.ChangeShapes Go.WideShapes Go.ChangeAt Go.RowKit
open Go.ChangeMaps (open_string shut_string)
set_option linter.unusedVariables false

theorem chainChecks_own : ownKnob Tryd.prog.godebug = none := by kernel_rfl
theorem chainChecks_laidOut : laidOutB Tryd.prog = true := by kernel_rfl
set_option maxRecDepth 100000 in
theorem chainChecks_lifted (os : Os) (started : os.Started) (H : Type) (enc : TypeId × Value → H) :
    ReturnsInHanded {} Tryd.checked os 4 .any (fun w args => (Rows.chainChecksSpec.pre enc Tryd.prog Tryd.f4 [] false w args ∧ laidMetH Tryd.prog laid3 w) ∧ sizedMet enc Tryd.prog Tryd.f4 (OpenSpec.ofChange Rows.chainChecksSpec) false w args)
      (Rows.chainChecksSpec.post enc Tryd.prog Tryd.f4 false true false false) := by
  refine returnsInHanded_of_change_and (C := Tryd.checked) (X := fun w _ => laidMetH Tryd.prog laid3 w) (fun _ _ _ hh h => h.of_heap hh) chainChecks_own started (by kernel_rfl) Tryd.func4
    (ChangeSpec.witness_shaped (enc := enc) (C := Tryd.checked) (os := os) (X := fun w _ => laidMetH Tryd.prog laid3 w) false (World.doorLaid Tryd.prog 400 os) #[.agg #[.slice none 0 0, .string ByteArray.empty, .slice none 0 0, .slice none 0 0]] 8 rfl (World.shaped_of_RefB (by kernel_rfl) (by kernel_rfl)) (by kernel_rfl) (by kernel_rfl) (by kernel_rfl) (door_met2 os _)) ?_
  intro W base args ds gs before hval0 hW _ hsz0 hL _
  have hval : ∀ (j : Nat) t v, Tryd.f4.params[j]? = some t → args[j]? = some v → Value.okWide Tryd.prog W .any base t v := hval0
  have hsz : (DataW.weightsEach Tryd.prog (Tryd.f4.params.toList ++ Rows.chainChecksSpec.plain.varTypes Tryd.prog) (ds ++ gs)).all (· ≤ reachBytes) = true := hsz0
  have hW' := hW
  obtain ⟨p, q, hA0, hV, rfl, hfz, hnd⟩ := hW
  have hA : DataW.TrodAll enc Tryd.prog W 0 (fun _ => true) true Tryd.f4.params.toList args.toList ds p := hA0
  rw [Tryd.params4] at hA hval hsz
  obtain ⟨v0, vs0, d0, ds0, p0, q0, hargs, rfl, rfl, h0, r0⟩ := trodAll_cons hA
  obtain ⟨rfl, rfl, rfl⟩ := trodAll_nil r0
  obtain rfl : args = #[v0] := by cases args; simp_all
  obtain ⟨rfl, rfl⟩ := trodVars_none hV
  have k0 := h0
  have lt0 : ∀ x ∈ p0, x.block < W.heap.size := by obtain ⟨m, hm⟩ := k0; exact DataW.trod_lt m _ _ _ hm
  have hG : G W := of_laid hL
  obtain ⟨c0, c1, c2, c3, y0, y1, y2, y3, m, rfl, rfl, hpp, hy0, hy1, hy2, hy3⟩ := Go.Joins.open_agg4 Tryd.underlying40 (by kernel_rfl) (by kernel_rfl) (hval 0 40 v0 rfl rfl) h0
  obtain ⟨sO, e1, rfl, _⟩ := DataW.trod_string Tryd.underlying9 hy1
  simp at e1
  subst e1
  have hz : (DataW.weightsEach Tryd.prog [40] [(.agg [y0.1, .lit (.string sO.data.toList), y2.1, y3.1] : DataW H)]).all (· ≤ reachBytes) = true := hsz
  simp only [DataW.weightsEach, DataW.weights, Tryd.underlying40, List.map_cons, List.map_nil, List.append_nil, List.all_append, List.all_cons, List.all_nil, Bool.and_true, Bool.and_eq_true] at hz
  obtain ⟨z0, z1, z2, z3⟩ := hz
  have lO : sO.data.toList.length ≤ 140737488351232 := of_decide_eq_true z1
  obtain ⟨tL, TL, _⟩ := lnk_cells (d := y0.1) (p := y0.2) hy0 z0
  obtain ⟨tA, TA, BA⟩ := txt_cells (d := y2.1) (p := y2.2) hy2 z2
  have NA := txt_many (d := y2.1) (p := y2.2) hy2 z2 TA
  obtain ⟨tB, TB, BB⟩ := txt_cells (d := y3.1) (p := y3.2) hy3 z3
  have NB := txt_many (d := y3.1) (p := y3.2) hy3 z3 TB
  have wk := checks4_walk W _ tL TL sO.data.toList lO _ tA TA BA NA _ tB TB BB NB hG
  rw [← ba_of sO] at wk
  clear hA0 hval0
  refine (wk).mono fun e W' ⟨he, bel⟩ => ?_
  subst he
  exact ⟨_, rfl, _, _, _, [], _, [], hW', trodAll_mk1 (shut_bool Tryd.underlying4 _), (trodAll_cons_mk (Below.trod chainChecks_laidOut (by kernel_rfl) (of_decide_eq_true (by kernel_rfl)) k0 bel lt0) trodAll_mk0), rfl, bel.frame _, fun h => by cases h⟩

theorem chainChecks_said : Rows.ChainChecksSaid :=
  OpenClaim.holds_of_wide 4 Tryd.f4 rfl rfl rfl rfl rfl rfl rfl ⟨rfl, rfl, rfl, rfl, rfl⟩ rfl rfl rfl rfl rfl (by kernel_rfl) Tryd.func4 (by kernel_rfl)
    (of_decide_eq_true (by kernel_rfl)) (by unfold Func.isWrapper; first | (rw [if_pos (by decide +kernel)]; kernel_rfl) | (rw [if_neg (by decide +kernel)]; exact ⟨rfl, rfl⟩))
    (fun os started H enc _ => chainChecks_lifted os started H enc)
theorem chainChecks_holds : Rows.ChainChecksCardSaid :=
  Claim7.holds_tied_plain_at .later [] _ _ _ _
    chainChecks_said (fun _ h => by cases h) (by kernel_rfl) (fun _ h => by cases h) chainChecks_row_tie rfl ⟨rfl, rfl⟩ (by kernel_rfl) rfl
    (fun f fn hf hfn => by
      obtain rfl : f = 4 := Option.some.inj ((show Tryd.prog.funcNamed "cartouche/cartouchelaw04.ChainChecks" = some 4 by kernel_rfl).symm.trans hf) |>.symm
      obtain rfl : fn = Tryd.f4 := (Option.some.inj (Tryd.func4.symm.trans hfn)).symm
      exact ⟨by kernel_rfl, fun j t ht => by
        rw [Tryd.params4] at ht
        have hm : t ∈ [40] := by simpa using Array.mem_of_getElem? ht
        have hall : ([40].all fun u => !Tryd.prog.wantsStandIn u) = true := by kernel_rfl
        exact (show Tryd.prog.wantsStandIn t = false by simpa using List.all_eq_true.1 hall t hm)⟩)
    (by kernel_rfl)
#print axioms chainChecks_holds
end Go.Proofs.YtgickejfcmnaiaaDoor
