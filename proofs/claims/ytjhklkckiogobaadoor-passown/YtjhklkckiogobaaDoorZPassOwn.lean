/-
  For every two keys, tenant and time, a pass is checked by another key just if its seals are the same: PassOwn is true, the tables being as the program's text lays them.
-/
import Derived.Test.YtjhklkckiogobaaDoorRows
import Derived.Test.YtjhklkckiogobaaDoorCards
import Derived.Test.YtjhklkckiogobaaDoorTie
import Derived.Test.YtjhklkckiogobaaDoorZLaid2
import Derived.Test.YtjhklkckiogobaaDoorZOpenN
import Derived.Test.YtjhklkckiogobaaDoorZW5Own
import Derived.WalkKit
import Derived.ProofKit
import Derived.OpenShut
import Derived.ShutString
import Derived.ChangeOld
import Derived.Below
import Derived.SizedLaws
import Derived.LaidMore
import Derived.Stop.Joined
import Derived.SevenTiedAt
import Derived.Lib.SmallJoins
namespace Go.Proofs.YtjhklkckiogobaaDoor
set_option maxRecDepth 100000
open Go.ChangeShapes Go.WideShapes Go.ChangeAt Go.RowKit
open Go.ChangeMaps (open_string shut_string)
set_option linter.unusedVariables false

theorem passOwn_own : ownKnob Tryd.prog.godebug = none := by kernel_rfl
theorem passOwn_laidOut : laidOutB Tryd.prog = true := by kernel_rfl
set_option maxRecDepth 100000 in
theorem passOwn_lifted (os : Os) (started : os.Started) (H : Type) (enc : TypeId × Value → H) :
    ReturnsInHanded {} Tryd.checked os 8 .any (fun w args => (Rows.passOwnSpec.pre enc Tryd.prog Tryd.f8 [] false w args ∧ laidMetH Tryd.prog laid3 w) ∧ sizedMet enc Tryd.prog Tryd.f8 (OpenSpec.ofChange Rows.passOwnSpec) false w args)
      (Rows.passOwnSpec.post enc Tryd.prog Tryd.f8 false true false false) := by
  refine returnsInHanded_of_change_and (C := Tryd.checked) (X := fun w _ => laidMetH Tryd.prog laid3 w) (fun _ _ _ hh h => h.of_heap hh) passOwn_own started (by kernel_rfl) Tryd.func8
    (ChangeSpec.witness_shaped (enc := enc) (C := Tryd.checked) (os := os) (X := fun w _ => laidMetH Tryd.prog laid3 w) false (World.doorLaid Tryd.prog 400 os) #[.agg #[.string ByteArray.empty, .string ByteArray.empty, .string ByteArray.empty, .int .u64 0]] 8 rfl (World.shaped_of_RefB (by kernel_rfl) (by kernel_rfl)) (by kernel_rfl) (by kernel_rfl) (by kernel_rfl) (door_met2 os _)) ?_
  intro W base args ds gs before hval0 hW _ hsz0 hL _
  have hval : ∀ (j : Nat) t v, Tryd.f8.params[j]? = some t → args[j]? = some v → Value.okWide Tryd.prog W .any base t v := hval0
  have hsz : (DataW.weightsEach Tryd.prog (Tryd.f8.params.toList ++ Rows.passOwnSpec.plain.varTypes Tryd.prog) (ds ++ gs)).all (· ≤ reachBytes) = true := hsz0
  have hW' := hW
  obtain ⟨p, q, hA0, hV, rfl, hfz, hnd⟩ := hW
  have hA : DataW.TrodAll enc Tryd.prog W 0 (fun _ => true) true Tryd.f8.params.toList args.toList ds p := hA0
  rw [Tryd.params8] at hA hval hsz
  obtain ⟨v0, vs0, d0, ds0, p0, q0, hargs, rfl, rfl, h0, r0⟩ := trodAll_cons hA
  obtain ⟨rfl, rfl, rfl⟩ := trodAll_nil r0
  obtain rfl : args = #[v0] := by cases args; simp_all
  obtain ⟨rfl, rfl⟩ := trodVars_none hV
  have k0 := h0
  have lt0 : ∀ x ∈ p0, x.block < W.heap.size := by obtain ⟨m, hm⟩ := k0; exact DataW.trod_lt m _ _ _ hm
  have hG : G W := of_laid hL
  obtain ⟨c0, c1, c2, c3, y0, y1, y2, y3, m, rfl, rfl, hpp, hy0, hy1, hy2, hy3⟩ := Go.Joins.open_agg4 Tryd.underlying46 (by kernel_rfl) (by kernel_rfl) (hval 0 46 v0 rfl rfl) h0
  obtain ⟨sK, e0, rfl, _⟩ := DataW.trod_string Tryd.underlying9 hy0
  obtain ⟨sO, e1, rfl, _⟩ := DataW.trod_string Tryd.underlying9 hy1
  obtain ⟨sT, e2, rfl, _⟩ := DataW.trod_string Tryd.underlying9 hy2
  obtain ⟨nU, e3, rfl, wfU⟩ := DataW.trod_int Tryd.underlying22 hy3
  simp at e0 e1 e2 e3
  subst e0 e1 e2 e3
  have hz : (DataW.weightsEach Tryd.prog [46] [(.agg [.lit (.string sK.data.toList), .lit (.string sO.data.toList), .lit (.string sT.data.toList), .lit (.int .u64 nU)] : DataW H)]).all (· ≤ reachBytes) = true := hsz
  simp only [DataW.weightsEach, DataW.weights, List.map_cons, List.map_nil, List.append_nil, List.all_append, List.all_cons, List.all_nil, Bool.and_true, Bool.and_eq_true, Tryd.underlying46] at hz
  obtain ⟨zK, zO, zT⟩ := hz
  have lK : sK.data.toList.length ≤ 140737488351232 := of_decide_eq_true zK
  have lO : sO.data.toList.length ≤ 140737488351232 := of_decide_eq_true zO
  have lT : sT.data.toList.length ≤ 140737488351232 := of_decide_eq_true zT
  simp [Lit.wf, IntKind.min, IntKind.max, IntKind.signed, IntKind.bits] at wfU
  obtain ⟨mU, rfl⟩ := Int.eq_ofNat_of_zero_le wfU.1
  have wk := own5_walk W sK.data.toList lK sO.data.toList lO sT.data.toList lT mU (by omega) hG
  rw [← ba_of sK, ← ba_of sO, ← ba_of sT] at wk
  clear hA0 hval0
  refine (wk).mono fun e W' ⟨he, bel⟩ => ?_
  subst he
  exact ⟨_, rfl, _, _, _, [], _, [], hW', trodAll_mk1 (shut_bool Tryd.underlying4 _), (trodAll_cons_mk (Below.trod passOwn_laidOut (by kernel_rfl) (of_decide_eq_true (by kernel_rfl)) k0 bel lt0) trodAll_mk0), rfl, bel.frame _, fun h => by cases h⟩

theorem passOwn_said : Rows.PassOwnSaid :=
  OpenClaim.holds_of_wide 8 Tryd.f8 rfl rfl rfl rfl rfl rfl rfl ⟨rfl, rfl, rfl, rfl, rfl⟩ rfl rfl rfl rfl rfl (by kernel_rfl) Tryd.func8 (by kernel_rfl)
    (of_decide_eq_true (by kernel_rfl)) (by unfold Func.isWrapper; first | (rw [if_pos (by decide +kernel)]; kernel_rfl) | (rw [if_neg (by decide +kernel)]; exact ⟨rfl, rfl⟩))
    (fun os started H enc _ => passOwn_lifted os started H enc)
theorem passOwn_holds : Rows.PassOwnCardSaid :=
  Claim7.holds_tied_plain_at .later [] _ _ _ _
    passOwn_said (fun _ h => by cases h) (by kernel_rfl) (fun _ h => by cases h) passOwn_row_tie rfl ⟨rfl, rfl⟩ (by kernel_rfl) rfl
    (fun f fn hf hfn => by
      obtain rfl : f = 8 := Option.some.inj ((show Tryd.prog.funcNamed "cartouche/cartouchelaw05.PassOwn" = some 8 by kernel_rfl).symm.trans hf) |>.symm
      obtain rfl : fn = Tryd.f8 := (Option.some.inj (Tryd.func8.symm.trans hfn)).symm
      exact ⟨by kernel_rfl, fun j t ht => by
        rw [Tryd.params8] at ht
        have hm : t ∈ [46] := by simpa using Array.mem_of_getElem? ht
        have hall : ([46].all fun u => !Tryd.prog.wantsStandIn u) = true := by kernel_rfl
        exact (show Tryd.prog.wantsStandIn t = false by simpa using List.all_eq_true.1 hall t hm)⟩)
    (by kernel_rfl)
#print axioms passOwn_holds
end Go.Proofs.YtjhklkckiogobaaDoor
