/-
  For every proofs, more proofs, places and edge, what proofs show they show with more proofs of reads behind them, too: LeanLess is true, the tables being as the
-/
import Derived.Test.YthamoeekiglphaaGreatDoorCLaid2
import Derived.Test.YthamoeekiglphaaGreatDoorSLeanLessL0a
import Derived.Test.YthamoeekiglphaaGreatDoorSLeanLessL6a
import Derived.Test.YthamoeekiglphaaGreatDoorCL3a
import Derived.Test.YthamoeekiglphaaGreatDoorSLeanLessLeanLessF
import Derived.Test.YthamoeekiglphaaGreatDoorCards
import Derived.Test.YthamoeekiglphaaGreatDoorTie
import Derived.ShutString
import Derived.ChangeOld
import Derived.SevenTiedAt
import Derived.Lib.SmallJoins
namespace Go.Proofs.YthamoeekiglphaaGreatDoor
set_option maxRecDepth 100000
open Go.ChangeShapes Go.WideShapes Go.ChangeAt Go.RowKit
open Go.ChangeMaps (open_string shut_string)
set_option linter.unusedVariables false
theorem leanLess_own:ownKnob Tryz.prog.godebug=none:=by kernel_rfl
theorem leanLess_laidOut:laidOutB Tryz.prog=true:=by kernel_rfl
set_option maxRecDepth 100000 in
theorem leanLess_lifted (C:P15C) (os:Os) (started:os.Started) (H:Type) (enc:TypeId × Value→H) :
 ReturnsInHanded {} Tryz.checked os 7 .any (fun w args=>(Rows.leanLessSpec.pre enc Tryz.prog Tryz.f7 [] false w args∧laidMetH Tryz.prog laid3 w)∧sizedMet enc Tryz.prog Tryz.f7 (OpenSpec.ofChange Rows.leanLessSpec) false w args)
  (Rows.leanLessSpec.post enc Tryz.prog Tryz.f7 false true false false):=by
 refine returnsInHanded_of_change_and (C:=Tryz.checked) (X:=fun w _=>laidMetH Tryz.prog laid3 w) (fun _ _ _ hh h=>h.of_heap hh) leanLess_own started (by kernel_rfl) Tryz.func7
  (ChangeSpec.witness_shaped (enc:=enc) (C:=Tryz.checked) (os:=os) (X:=fun w _=>laidMetH Tryz.prog laid3 w) false (World.doorLaid Tryz.prog 400 os) #[.agg #[.slice none 0 0,.slice none 0 0,.int .i64 0,.int .i64 0,.int .i64 0,.int .i64 0,.int .i64 0,.int .i64 0,.int .i64 0,.int .i64 0]] 8 rfl (World.shaped_of_RefB (by kernel_rfl) (by kernel_rfl)) (by kernel_rfl) (by kernel_rfl) (by kernel_rfl) (door_met2 os _)) ?_
 intro W base args ds gs before hval0 hW _ hsz0 hL _
 have hval:∀ (j:Nat) t v,Tryz.f7.params[j]?=some t→args[j]?=some v→Value.okWide Tryz.prog W .any base t v:=hval0
 have hsz:(DataW.weightsEach Tryz.prog (Tryz.f7.params.toList++Rows.leanLessSpec.plain.varTypes Tryz.prog) (ds++gs)).all (·≤ reachBytes)=true:=hsz0
 have hW':=hW
 obtain ⟨p,q,hA0,hV,rfl,hfz,hnd⟩:=hW
 have hA:DataW.TrodAll enc Tryz.prog W 0 (fun _=>true) true Tryz.f7.params.toList args.toList ds p:=hA0
 rw [Tryz.params7] at hA hval hsz
 obtain ⟨v0,vs0,d0,ds0,p0,q0,hargs,rfl,rfl,h0,r0⟩:=trodAll_cons hA
 obtain ⟨rfl,rfl,rfl⟩:=trodAll_nil r0
 obtain rfl:args=#[v0]:=by cases args;simp_all
 obtain ⟨rfl,rfl⟩:=trodVars_none hV
 have k0:=h0
 have lt0:∀ x∈p0,x.block < W.heap.size:=by obtain ⟨m,hm⟩:=k0;exact DataW.trod_lt m _ _ _ hm
 have hG:G W:=of_laid hL
 have hz:(DataW.weightsEach Tryz.prog [72] [d0]).all (·≤ reachBytes)=true:=hsz
 simp only [DataW.weightsEach,List.append_nil] at hz
 have wz0:=hz
 obtain ⟨lI,mI,vlI,vmI,b0,b1,b2,e0,e1,e2,e3,e4,rfl,AI,BI⟩:=less_val (hval 0 72 v0 rfl rfl) h0 wz0
 have wk:=less15_walk C W hG lI mI vlI vmI AI BI b0 b1 b2 e0 e1 e2 e3 e4
 clear hA0 hval0
 refine (wk).mono fun e W' ⟨he,bel⟩=>?_
 subst he
 exact ⟨_,rfl,_,_,_,[],_,[],hW',trodAll_mk1 (shut_bool Tryz.underlying4 _),(trodAll_cons_mk (Below.trod leanLess_laidOut (by kernel_rfl) (of_decide_eq_true (by kernel_rfl)) k0 bel lt0) trodAll_mk0),rfl,bel.frame _,fun h=>by cases h⟩
theorem leanLess_said (C:P15C):Rows.LeanLessSaid :=
 OpenClaim.holds_of_wide 7 Tryz.f7 rfl rfl rfl rfl rfl rfl rfl ⟨rfl,rfl,rfl,rfl,rfl⟩ rfl rfl rfl rfl rfl (by kernel_rfl) Tryz.func7 leanLess_closed
  (of_decide_eq_true (by kernel_rfl)) (by unfold Func.isWrapper;first | (rw [if_pos (by decide +kernel)];kernel_rfl) | (rw [if_neg (by decide +kernel)];exact ⟨rfl,rfl⟩))
  (fun os started H enc _=>leanLess_lifted C os started H enc)
theorem leanLess_holdsC (C:P15C):Rows.LeanLessCardSaid :=
 Claim7.holds_tied_plain_at .later [] _ _ _ _
  (leanLess_said C) (fun _ h=>by cases h) (by kernel_rfl) (fun _ h=>by cases h) leanLess_row_tie rfl ⟨rfl,rfl⟩ (by kernel_rfl) rfl
  (fun f fn hf hfn=>by
   obtain rfl:f=7:=Option.some.inj ((show Tryz.prog.funcNamed "cartouche/cartouchelaw15.LeanLess"=some 7 by kernel_rfl).symm.trans hf) |>.symm
   obtain rfl:fn=Tryz.f7:=(Option.some.inj (Tryz.func7.symm.trans hfn)).symm
   exact ⟨by kernel_rfl,fun j t ht=>by
    rw [Tryz.params7] at ht
    have hm:t∈[72]:=by simpa using Array.mem_of_getElem? ht
    have hall:([72].all fun u=>!Tryz.prog.wantsStandIn u)=true:=by kernel_rfl
    exact (show Tryz.prog.wantsStandIn t=false by simpa using List.all_eq_true.1 hall t hm)⟩)
  (by kernel_rfl)
theorem leanLess_holds:Rows.LeanLessCardSaid:=leanLess_holdsC p15c
#print axioms leanLess_holds
end Go.Proofs.YthamoeekiglphaaGreatDoor
