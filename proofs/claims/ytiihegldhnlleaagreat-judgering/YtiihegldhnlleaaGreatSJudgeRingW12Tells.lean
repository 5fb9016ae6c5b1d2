/-
  The walk of JudgeTells.
-/
import Derived.Test.YtiihegldhnlleaaGreatCShown12
import Derived.Test.YtiihegldhnlleaaGreatSJudgeRingR12Judge
namespace Go.Proofs.YtiihegldhnlleaaGreat
set_option maxRecDepth 100000
open Go.RowKit
set_option linter.unusedVariables false
attribute [local go_sem] ba_size
theorem judge_few (h:List Ev) (level:Int):(judgeL h level).1.2.2.1.length≤1000000∧(judgeL h level).1.2.2.2.2.length≤1000000:=by
 by_cases hl:level=1∨level=2
 ·by_cases hf:(formedL h).2=0
  ·obtain ⟨l1,l2,l3,l4⟩:=wf_bounds ((formed_ok h).1 hf) level
   cases hb:badsL h with
   | cons b r=>rw [judge_bad h level hl hf b r hb];simp
   | nil =>
     cases ho:orderL (nodeL h) (stepsL level (edgesL h)) with
     | some o =>
       rw [judge_order h level hl hf hb o ho]
       have:=orderF_few _ (nodeL h).length (nodeL h) o ho
       simp only [List.length_nil]
       omega
     | none=>rw [judge_ring h level hl hf hb ho];simp only [List.length_nil];omega
  ·rw [judge_form h level hl hf];simp [zV]
 ·rw [judge_arg h level (by omega) (by omega)];simp [zV]
end Go.Proofs.YtiihegldhnlleaaGreat
