/-
  The answer's contracts of tapes, as a walk takes them.
-/
import Derived.Test.YtlaidbaghjlpfaaGU
import Derived.Test.YtlaidbaghjlpfaaZR16Small
import Derived.Test.YtlaidbaghjlpfaaZR16Crash
namespace Go.Proofs.Ytlaidbaghjlpfaa
set_option maxRecDepth 100000
open Go.RowKit
set_option linter.unusedVariables false
section
variable {s p s' p' : List UInt8} {r f r' f' : Int} {o o' : Bool}
theorem rn16 (n : Int) {e : Int} (h : newT n = ((s', p', r', f', o'), e)) (w : World) :
    Calls Try.prog 11 #[.int .i64 n] w fun x w' => x = .returned (.tuple #[tA s' p' r' f' o', .int .i64 e]) ∧ Below w.heap.size w w' := by
  have := rnew16_any n w; rw [h] at this; exact this
theorem rw16 {rec : List UInt8} {e : Int} (hg : goodT (s, p, r, f, o)) (hl : rec.length ≤ 9223372036854775807) (h : writeT (s, p, r, f, o) rec = ((s', p', r', f', o'), e)) (w : World) :
    Calls Try.prog 13 #[tA s p r f o, .string ⟨rec.toArray⟩] w fun x w' => x = .returned (.tuple #[tA s' p' r' f' o', .int .i64 e]) ∧ Below w.heap.size w w' := by
  have := rwrite16_any s p rec r f o hg hl w; rw [h] at this; exact this
theorem rs16 {e : Int} (hg : goodT (s, p, r, f, o)) (h : syncT (s, p, r, f, o) = ((s', p', r', f', o'), e)) (w : World) :
    Calls Try.prog 15 #[tA s p r f o] w fun x w' => x = .returned (.tuple #[tA s' p' r' f' o', .int .i64 e]) ∧ Below w.heap.size w w' := by
  have := rsync16_any s p r f o hg.2.2.1 hg.2.2.2 w; rw [h] at this; exact this
theorem ra16 {n : Int} (h : armT (s, p, r, f, o) n = (s', p', r', f', o')) (w : World) :
    Calls Try.prog 22 #[tA s p r f o, .int .i64 n] w fun x w' => x = .returned (tA s' p' r' f' o') ∧ Below w.heap.size w w' := by
  have := rarm16_any s p r f o n w; rw [h] at this; exact this
theorem rc16 {n : Int} (hg : goodT (s, p, r, f, o)) (h : crashT (s, p, r, f, o) n = (s', p', r', f', o')) (w : World) :
    Calls Try.prog 24 #[tA s p r f o, .int .i64 n] w fun x w' => x = .returned (tA s' p' r' f' o') ∧ Below w.heap.size w w' := by
  have := rcrash16_any s p r f o n (by have := hg.2.2.1; have := hg.2.2.2; simp only at *; omega) w; rw [h] at this; exact this
theorem rr16 (L : List (List UInt8)) (hg : goodT (s, p, r, f, o)) (h : readT (s, p, r, f, o) = L) (w : World) :
    Calls Try.prog 20 #[tA s p r f o] w fun x w' => RdRes w L x w' := by
  have := rread16_any s p r f o (by have := hg.2.2.1; have := hg.2.2.2; simp only at *; omega) w; rw [← h]; exact this
theorem rsc16 (hs : s.length ≤ 8796093021952) (w : World) :
    Calls Try.prog 17 #[.string ⟨s.toArray⟩] w fun x w' => ScRes w (Lm.recsL s) (Lm.body (Lm.recsL s)).length x w' := rscan16_any s hs w
end
end Go.Proofs.Ytlaidbaghjlpfaa
