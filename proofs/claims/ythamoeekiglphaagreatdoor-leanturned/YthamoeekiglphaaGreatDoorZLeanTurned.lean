/-
  For every certificate, place and event, a certificate that is taken is none if one of its events is another one, unless two unlike texts of one sum come to ligh
-/
import Derived.Test.YthamoeekiglphaaGreatDoorCLaid2
import Derived.Test.YthamoeekiglphaaGreatDoorCW15Turned
import Derived.Test.YthamoeekiglphaaGreatDoorCL3a
import Derived.Test.YthamoeekiglphaaGreatDoorCLeanTurnedF
import Derived.Test.YthamoeekiglphaaGreatDoorCards
import Derived.Test.YthamoeekiglphaaGreatDoorTie
import Derived.ShutString
import Derived.ChangeOld
import Derived.SevenTiedAt
import Derived.Lib.SmallJoins
namespace Go.Proofs.YthamoeekiglphaaGreatDoor
set_option maxRecDepth 100000
open Go.ChangeShapes Go.WideShapes Go.ChangeAt Go.RowKit
open Go.ChangeMaps (open_string shut_string)
set_option linter.unusedVariables false
theorem leanTurned_own:ownKnob Tryz.prog.godebug=none:=by kernel_rfl
theorem leanTurned_laidOut:laidOutB Tryz.prog=true:=by kernel_rfl
set_option maxRecDepth 100000 in
theorem leanTurned_lifted (C:P15C) (os:Os) (started:os.Started) (H:Type) (enc:TypeId × Value→H) :
 ReturnsInHanded {} Tryz.checked os 6 .any (fun w args=>(Rows.leanTurnedSpec.pre enc Tryz.prog Tryz.f6 [] false w args∧laidMetH Tryz.prog laid3 w)∧sizedMet enc Tryz.prog Tryz.f6 (OpenSpec.ofChange Rows.leanTurnedSpec) false w args)
  (Rows.leanTurnedSpec.post enc Tryz.prog Tryz.f6 false true false false):=by
 refine returnsInHanded_of_change_and (C:=Tryz.checked) (X:=fun w _=>laidMetH Tryz.prog laid3 w) (fun _ _ _ hh h=>h.of_heap hh) leanTurned_own started (by kernel_rfl) Tryz.func6
  (ChangeSpec.witness_shaped (enc:=enc) (C:=Tryz.checked) (os:=os) (X:=fun w _=>laidMetH Tryz.prog laid3 w) false (World.doorLaid Tryz.prog 400 os) #[.agg #[.string ByteArray.empty,.int .i64 0,.string ByteArray.empty,.string ByteArray.empty,.int .i64 0,.int .i64 0,.bool false,.slice none 0 0,.int .i64 0,.int .i64 0,.int .i64 0,.slice none 0 0,.slice none 0 0],.int .i64 0,.agg #[.int .i64 0,.int .i64 0,.string ByteArray.empty,.string ByteArray.empty]] 8 rfl (World.shaped_of_RefB (by kernel_rfl) (by kernel_rfl)) (by kernel_rfl) (by kernel_rfl) (by kernel_rfl) (door_met2 os _)) ?_
 intro W base args ds gs before hval0 hW _ hsz0 hL _
 have hval:∀ (j:Nat) t v,Tryz.f6.params[j]?=some t→args[j]?=some v→Value.okWide Tryz.prog W .any base t v:=hval0
 have hsz:(DataW.weightsEach Tryz.prog (Tryz.f6.params.toList++Rows.leanTurnedSpec.plain.varTypes Tryz.prog) (ds++gs)).all (·≤ reachBytes)=true:=hsz0
 have hW':=hW
 obtain ⟨p,q,hA0,hV,rfl,hfz,hnd⟩:=hW
 have hA:DataW.TrodAll enc Tryz.prog W 0 (fun _=>true) true Tryz.f6.params.toList args.toList ds p:=hA0
 rw [Tryz.params6] at hA hval hsz
 obtain ⟨v0,vs0,d0,ds0,p0,q0,hargs,rfl,rfl,h0,r0⟩:=trodAll_cons hA
 obtain ⟨v1,vs1,d1,ds1,p1,q1,rfl,rfl,rfl,h1,r1⟩:=trodAll_cons r0
 obtain ⟨v2,vs2,d2,ds2,p2,q2,rfl,rfl,rfl,h2,r2⟩:=trodAll_cons r1
 obtain ⟨rfl,rfl,rfl⟩:=trodAll_nil r2
 obtain rfl:args=#[v0,v1,v2]:=by cases args;simp_all
 obtain ⟨rfl,rfl⟩:=trodVars_none hV
 have k0:=h0
 have lt0:∀ x∈p0,x.block < W.heap.size:=by obtain ⟨m,hm⟩:=k0;exact DataW.trod_lt m _ _ _ hm
 have k1:=h1
 have lt1:∀ x∈p1,x.block < W.heap.size:=by obtain ⟨m,hm⟩:=k1;exact DataW.trod_lt m _ _ _ hm
 have k2:=h2
 have lt2:∀ x∈p2,x.block < W.heap.size:=by obtain ⟨m,hm⟩:=k2;exact DataW.trod_lt m _ _ _ hm
 have hG:G W:=of_laid hL
 obtain ⟨nI,rfl,rfl,rfl,wfI⟩:=open_int Tryz.underlying3 (hval 1 3 v1 rfl rfl) h1
 have hz:(DataW.weightsEach Tryz.prog [30,3,53] [d0,(.lit (.int .i64 nI):DataW H),d2]).all (·≤ reachBytes)=true:=hsz
 simp only [DataW.weightsEach,DataW.weights,List.append_nil,List.all_append,List.nil_append,Bool.and_eq_true] at hz
 obtain ⟨wz0,wz2⟩:=hz
 obtain ⟨xC,oC,rC,pC',rfl,AC⟩:=ct_val (hval 0 30 v0 rfl rfl) h0 wz0
 obtain ⟨⟨X0,X1,X2,X3⟩,rfl,gX⟩:=ev_val (hval 2 53 v2 rfl rfl) h2 wz2
 have wk:=turned15_all C W hG xC oC rC pC' AC nI X0 X1 X2 X3
 clear hA0 hval0
 refine (wk).mono fun e W' ⟨he,bel⟩=>?_
 subst he
 exact ⟨_,rfl,_,_,_,[],_,[],hW',trodAll_mk1 (shut_bool Tryz.underlying4 _),(trodAll_cons_mk (Below.trod leanTurned_laidOut (by kernel_rfl) (of_decide_eq_true (by kernel_rfl)) k0 bel lt0) (trodAll_cons_mk (Below.trod leanTurned_laidOut (by kernel_rfl) (of_decide_eq_true (by kernel_rfl)) k1 bel lt1) (trodAll_cons_mk (Below.trod leanTurned_laidOut (by kernel_rfl) (of_decide_eq_true (by kernel_rfl)) k2 bel lt2) trodAll_mk0))),rfl,bel.frame _,fun h=>by cases h⟩
theorem leanTurned_said (C:P15C):Rows.LeanTurnedSaid :=
 OpenClaim.holds_of_wide 6 Tryz.f6 rfl rfl rfl rfl rfl rfl rfl ⟨rfl,rfl,rfl,rfl,rfl⟩ rfl rfl rfl rfl rfl (by kernel_rfl) Tryz.func6 leanTurned_closed
  (of_decide_eq_true (by kernel_rfl)) (by unfold Func.isWrapper;first | (rw [if_pos (by decide +kernel)];kernel_rfl) | (rw [if_neg (by decide +kernel)];exact ⟨rfl,rfl⟩))
  (fun os started H enc _=>leanTurned_lifted C os started H enc)
theorem leanTurned_holdsC (C:P15C):Rows.LeanTurnedCardSaid :=
 Claim7.holds_tied_plain_at .later [] _ _ _ _
  (leanTurned_said C) (fun _ h=>by cases h) (by kernel_rfl) (fun _ h=>by cases h) leanTurned_row_tie rfl ⟨rfl,rfl⟩ (by kernel_rfl) rfl
  (fun f fn hf hfn=>by
   obtain rfl:f=6:=Option.some.inj ((show Tryz.prog.funcNamed "cartouche/cartouchelaw15.LeanTurned"=some 6 by kernel_rfl).symm.trans hf) |>.symm
   obtain rfl:fn=Tryz.f6:=(Option.some.inj (Tryz.func6.symm.trans hfn)).symm
   exact ⟨by kernel_rfl,fun j t ht=>by
    rw [Tryz.params6] at ht
    have hm:t∈[30,3,53]:=by simpa using Array.mem_of_getElem? ht
    have hall:([30,3,53].all fun u=>!Tryz.prog.wantsStandIn u)=true:=by kernel_rfl
    exact (show Tryz.prog.wantsStandIn t=false by simpa using List.all_eq_true.1 hall t hm)⟩)
  (by kernel_rfl)
theorem leanTurned_holds:Rows.LeanTurnedCardSaid:=leanTurned_holdsC p15c
#print axioms leanTurned_holds
end Go.Proofs.YthamoeekiglphaaGreatDoor
