/-
  For every steps whose bulk is at most 1048576 (the second form), their edges are the document's: JudgeFlat is true.
-/
import Derived.Test.YtiihegldhnlleaaGreatSJudgeFlatL1a
import Derived.Test.YtiihegldhnlleaaGreatCL4a
import Derived.OpenShut
import Derived.ShutString
import Derived.ChangeOld
import Derived.Below
import Derived.SizedLaws
import Derived.Lib.SmallJoins
import Derived.Deep.DeepHandedRow
import Derived.Stop.Joined
import Derived.LaidMore
namespace Go.Proofs.YtiihegldhnlleaaGreat
set_option maxRecDepth 100000
open Go.ChangeShapes Go.WideShapes Go.ChangeAt Go.RowKit
open Go.ChangeMaps (open_string shut_string)
set_option linter.unusedVariables false
theorem judgeFlat_own:ownKnob Tryz.prog.godebug=none:=by kernel_rfl
theorem judgeFlat_laidOut:laidOutB Tryz.prog=true:=by kernel_rfl
theorem judgeFlat_reads (os:Os) {H:Type} (enc:TypeId × Value→H):∃ places,DataW.whole enc Tryz.prog ((World.doorLaid Tryz.prog 400 os).forCall (fun _ _=>0) ⟨#[],#[.slice none 0 0],[]⟩).memory Tryz.f4.params.toList Rows.judgeFlatSpec.vars false #[.slice none 0 0].toList 8=some ([.nil],[],places) :=
 ⟨[],by kernel_rfl⟩
set_option maxRecDepth 100000 in
theorem judgeFlat_lifted (C:P12C) (os:Os) (started:os.Started) (H:Type) (enc:TypeId × Value→H) (F:Stop.Interp) :
 ReturnsInHanded {} Tryz.checked os 4 .any ((Rows.OpenSpec.upto Rows.judgeFlatSpec).preRow enc Tryz.prog Tryz.f4 Rows.judgeFlatUptoRow.domain false Rows.judgeFlatUptoRow.laid) (((Rows.OpenSpec.upto Rows.judgeFlatSpec).at F).post enc Tryz.prog Tryz.f4 false true false false):=by
 obtain ⟨places,hx⟩:=judgeFlat_reads os enc
 refine returnsInHanded_of_row (C:=Tryz.checked) (s:=Rows.OpenSpec.upto Rows.judgeFlatSpec) judgeFlat_own started (by kernel_rfl) Tryz.func4
  (witness_row_at (enc:=enc) (C:=Tryz.checked) false (World.doorLaid Tryz.prog 400 os) #[.slice none 0 0] rfl (by kernel_rfl) (by kernel_rfl) (by kernel_rfl)
   (OpenSpec.preRow_of_cond 8 hx (by kernel_rfl) (fun k hk=>by cases hk;kernel_rfl) (by kernel_rfl) (⟨[],by first | exact .nil | rfl | trivial | constructor,List.nodup_nil,fun _ _ h=>by cases h⟩))) ?_
 intro W base args ds gs before hval0 hW _ hcond hsz0 hL _ _
 have hbd:Rows.uptoBulkAll (ds++gs)≤1048576:=of_decide_eq_true (hcond _ rfl)
 have hval:∀ (j:Nat) t v,Tryz.f4.params[j]?=some t→args[j]?=some v→Value.okWide Tryz.prog W .any base t v:=hval0
 have hsz:(DataW.weightsEach Tryz.prog (Tryz.f4.params.toList++Rows.judgeFlatSpec.plain.varTypes Tryz.prog) (ds++gs)).all (·≤ reachBytes)=true:=hsz0
 have hW':=hW
 obtain ⟨p,q,hA0,hV,rfl,hfz,hnd⟩:=hW
 have hA:DataW.TrodAll enc Tryz.prog W 0 (fun _=>true) true Tryz.f4.params.toList args.toList ds p:=hA0
 rw [Tryz.params4] at hA hval hsz
 obtain ⟨v0,vs0,d0,ds0,p0,q0,hargs,rfl,rfl,h0,r0⟩:=trodAll_cons hA
 obtain ⟨rfl,rfl,rfl⟩:=trodAll_nil r0
 obtain rfl:args=#[v0]:=by cases args;simp_all
 obtain ⟨rfl,rfl⟩:=trodVars_none hV
 have k0:=h0
 have lt0:∀ x∈p0,x.block < W.heap.size:=by obtain ⟨m,hm⟩:=k0;exact DataW.trod_lt m _ _ _ hm
 have hz:(DataW.weightsEach Tryz.prog [38] [d0]).all (·≤ reachBytes)=true:=hsz
 (try simp only [DataW.weightsEach,List.append_nil] at hz)
 obtain ⟨tL,TL,SL,GL,NL⟩:=st_arg (okWide_slice Tryz.underlying38 (hval 0 38 v0 rfl rfl)) h0 hz
 have hbd2:Rows.uptoBulk d0+0≤1048576:=hbd
 have UL:=st_bulk h0 TL
 have wk:=flat12_walk C W _ tL TL (by omega) (by omega)
 clear hA0 hval0
 refine (wk).mono fun e W' ⟨he,bel⟩=>?_
 subst he
 exact ⟨_,rfl,_,_,_,[],_,[],hW',trodAll_mk1 (shut_bool Tryz.underlying4 _),(trodAll_cons_mk (Below.trod judgeFlat_laidOut (by kernel_rfl) (of_decide_eq_true (by kernel_rfl)) k0 bel lt0) trodAll_mk0),rfl,bel.frame _,fun h=>by cases h⟩
theorem judgeFlat_holdsC (C:P12C):Rows.JudgeFlatUptoSaid :=
 OpenClaim.holds_of_cond 4 Tryz.f4 rfl rfl rfl rfl rfl rfl rfl ⟨rfl,rfl,rfl,rfl,rfl⟩ rfl rfl rfl rfl rfl (by kernel_rfl) Tryz.func4 (by kernel_rfl)
  (of_decide_eq_true (by kernel_rfl)) (by unfold Func.isWrapper;first | (rw [if_pos (by decide +kernel)];kernel_rfl) | (rw [if_neg (by decide +kernel)];exact ⟨rfl,rfl⟩))
  (fun os started H enc _ F=>by rw [OpenClaim.pre_eq_preRow];exact judgeFlat_lifted C os started H enc F)
theorem judgeFlat_holds:Rows.JudgeFlatUptoSaid:=judgeFlat_holdsC p12c
#print axioms judgeFlat_holds
end Go.Proofs.YtiihegldhnlleaaGreat
