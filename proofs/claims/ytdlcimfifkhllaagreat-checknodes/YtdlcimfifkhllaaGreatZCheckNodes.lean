/-
  For every history (80 events at most, of transactions 0 to 60) an order that is ahead has just the committed transactions, each once: CheckNodes is true.
-/
import Derived.Test.YtdlcimfifkhllaaGreatSCheckNodesL0a
import Derived.Test.YtdlcimfifkhllaaGreatCL5a
import Derived.Test.YtdlcimfifkhllaaGreatRows
import Derived.OpenShut
import Derived.ShutString
import Derived.ChangeOld
import Derived.SizedLaws
import Derived.Lib.SmallJoins
namespace Go.Proofs.YtdlcimfifkhllaaGreat
set_option maxRecDepth 100000
open Go.ChangeShapes Go.WideShapes Go.ChangeAt Go.RowKit
open Go.ChangeMaps (open_string shut_string)
set_option linter.unusedVariables false
theorem checkNodes_own:ownKnob Tryz.prog.godebug=none:=by kernel_rfl
theorem checkNodes_laidOut:laidOutB Tryz.prog=true:=by kernel_rfl
set_option maxRecDepth 100000 in
theorem checkNodes_lifted (C:P13C) (os:Os) (started:os.Started) (H:Type) (enc:TypeId × Value→H) :
 ReturnsInHanded {} Tryz.checked os 9 .any (Rows.checkNodesSpec.pre6 enc Tryz.prog Tryz.f9 Rows.checkNodesRow.domain false) (Rows.checkNodesSpec.post enc Tryz.prog Tryz.f9 false true false false):=by
 refine returnsInHanded_of_change_sized (C:=Tryz.checked) checkNodes_own started (by kernel_rfl) Tryz.func9
  (ChangeSpec.witness6 (enc:=enc) (C:=Tryz.checked) false ⟨#[],#[.slice none 0 0,.int .i64 0,.slice none 0 0],[]⟩ 8 (by kernel_rfl) (by kernel_rfl) (by kernel_rfl) (by kernel_rfl)) ?_
 intro W base args ds gs before hval0 hW hcnd hsz0 _
 have hval:∀ (j:Nat) t v,Tryz.f9.params[j]?=some t→args[j]?=some v→Value.okWide Tryz.prog W .any base t v:=hval0
 have hsz:(DataW.weightsEach Tryz.prog (Tryz.f9.params.toList++Rows.checkNodesSpec.plain.varTypes Tryz.prog) (ds++gs)).all (·≤ reachBytes)=true:=hsz0
 have hW':=hW
 obtain ⟨p,q,hA0,hV,rfl,hfz,hnd⟩:=hW
 have hA:DataW.TrodAll enc Tryz.prog W 0 (fun _=>true) true Tryz.f9.params.toList args.toList ds p:=hA0
 rw [Tryz.params9] at hA hval hsz
 obtain ⟨v0,vs0,d0,ds0,p0,q0,hargs,rfl,rfl,h0,r0⟩:=trodAll_cons hA
 obtain ⟨v1,vs1,d1,ds1,p1,q1,rfl,rfl,rfl,h1,r1⟩:=trodAll_cons r0
 obtain ⟨v2,vs2,d2,ds2,p2,q2,rfl,rfl,rfl,h2,r2⟩:=trodAll_cons r1
 obtain ⟨rfl,rfl,rfl⟩:=trodAll_nil r2
 obtain rfl:args=#[v0,v1,v2]:=by cases args;simp_all
 obtain ⟨rfl,rfl⟩:=trodVars_none hV
 have k0:=h0
 have lt0:∀ x∈p0,x.block < W.heap.size:=by obtain ⟨m,hm⟩:=k0;exact DataW.trod_lt m _ _ _ hm
 have k1:=h1
 have lt1:∀ x∈p1,x.block < W.heap.size:=by obtain ⟨m,hm⟩:=k1;exact DataW.trod_lt m _ _ _ hm
 have k2:=h2
 have lt2:∀ x∈p2,x.block < W.heap.size:=by obtain ⟨m,hm⟩:=k2;exact DataW.trod_lt m _ _ _ hm
 obtain ⟨nV,rfl,rfl,rfl,wfV⟩:=open_int Tryz.underlying3 (hval 1 3 v1 rfl rfl) h1
 have hz:(DataW.weightsEach Tryz.prog [22,3,23] [d0,(.lit (.int .i64 nV):DataW H),d2]).all (·≤ reachBytes)=true:=hsz
 (try simp only [DataW.weightsEach,DataW.weights,List.append_nil,List.all_append,Bool.and_eq_true,List.nil_append] at hz)
 obtain ⟨wz0,wz2⟩:=hz
 obtain ⟨tH,TH,GH,NH⟩:=ev_arg (okWide_slice Tryz.underlying22 (hval 0 22 v0 rfl rfl)) h0 wz0
 obtain ⟨tO,TO,GO,NO⟩:=int_arg13 (okWide_slice Tryz.underlying23 (hval 2 23 v2 rfl rfl)) h2 wz2
 have wk:=nodes13_walk C W _ tH TH GH nV (okN_wf wfV) _ tO TO GO
 clear hA0 hval0
 refine (wk).mono fun e W' ⟨he,bel⟩=>?_
 subst he
 exact ⟨_,rfl,_,_,_,[],_,[],hW',trodAll_mk1 (shut_bool Tryz.underlying4 _),(trodAll_cons_mk (Below.trod checkNodes_laidOut (by kernel_rfl) (of_decide_eq_true (by kernel_rfl)) k0 bel lt0) (trodAll_cons_mk (Below.trod checkNodes_laidOut (by kernel_rfl) (of_decide_eq_true (by kernel_rfl)) k1 bel lt1) (trodAll_cons_mk (Below.trod checkNodes_laidOut (by kernel_rfl) (of_decide_eq_true (by kernel_rfl)) k2 bel lt2) trodAll_mk0))),rfl,bel.frame _,fun h=>by cases h⟩
theorem checkNodes_holdsC (C:P13C):Rows.CheckNodesSaid :=
 OpenClaim.holds_of_wide 9 Tryz.f9 rfl rfl rfl rfl rfl rfl rfl ⟨rfl,rfl,rfl,rfl,rfl⟩ rfl rfl rfl rfl rfl (by kernel_rfl) Tryz.func9 (by kernel_rfl)
  (of_decide_eq_true (by kernel_rfl)) (by unfold Func.isWrapper;first | (rw [if_pos (by decide +kernel)];kernel_rfl) | (rw [if_neg (by decide +kernel)];exact ⟨rfl,rfl⟩))
  (fun os started H enc _=>checkNodes_lifted C os started H enc)
theorem checkNodes_holds:Rows.CheckNodesSaid:=checkNodes_holdsC p13c
#print axioms checkNodes_holds
end Go.Proofs.YtdlcimfifkhllaaGreat
