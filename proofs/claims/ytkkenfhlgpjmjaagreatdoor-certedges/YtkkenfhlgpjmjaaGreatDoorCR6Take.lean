/-
  What cartoucheref06.Take answers.
-/
import Derived.Test.YtkkenfhlgpjmjaaGreatDoorCL0d
namespace Go.Proofs.YtkkenfhlgpjmjaaGreatDoor
set_option maxRecDepth 100000
open Go.RowKit
set_option linter.unusedVariables false
attribute [local go_sem] ba_size ba_append ba_get ba_extract take_drop_end
def takeER (s:List UInt8):Ev × Nat:=match takeE s with
 | none=>((0,0,[],[]),3)
 | some x=>(x,0)
theorem takeE_two (a b:UInt8) (r:List UInt8):takeE (a::b::r)=(if keyedE (a.toNat:Int) then
 if (Lm.takeTextL r 32).2.2≠0 then none
 else if (Lm.takeTextL (Lm.takeTextL r 32).2.1 32).2.2≠0∨0 < (Lm.takeTextL (Lm.takeTextL r 32).2.1 32).2.1.length then none
 else if mayE ((a.toNat:Int),(b.toNat:Int),(Lm.takeTextL r 32).1,(Lm.takeTextL (Lm.takeTextL r 32).2.1 32).1) then some ((a.toNat:Int),(b.toNat:Int),(Lm.takeTextL r 32).1,(Lm.takeTextL (Lm.takeTextL r 32).2.1 32).1) else none
 else if 0 < r.length∨¬ mayE ((a.toNat:Int),(b.toNat:Int),[],[]) then none else some ((a.toNat:Int),(b.toNat:Int),[],[])):=rfl
theorem i64_byte (b:UInt8):IntKind.i64.wrap (b.toNat:Int)=b.toNat:=by
 have:=b.toNat_lt
 rw [IntKind.wrap_i64];omega
theorem size_ev:(Tryz.prog.info? 64).map (·.size)=some 4:=by kernel_rfl
end Go.Proofs.YtkkenfhlgpjmjaaGreatDoor
