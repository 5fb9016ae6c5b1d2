/-
  More on words of 32 bits: turning, exclusive or, half of a mixing: of no program.
-/
import Derived.Test.YtchneiefjjcccaaZWords
namespace Go.Proofs.Ytchneiefjjcccaa
set_option maxRecDepth 100000
open Go.RowKit
set_option linter.unusedVariables false
theorem or_comm32 (a b : Int) : bits .or .u32 a b = bits .or .u32 b a := by
  show IntKind.u32.wrap ((BitVec.ofInt 32 a ||| BitVec.ofInt 32 b).toNat : Int) = IntKind.u32.wrap ((BitVec.ofInt 32 b ||| BitVec.ofInt 32 a).toNat : Int)
  rw [BitVec.or_comm]
theorem ofInt_wrap32 (x : BitVec 32) : BitVec.ofInt 32 (IntKind.u32.wrap (x.toNat : Int)) = x := by
  have h := x.isLt
  have e : IntKind.u32.wrap (x.toNat : Int) = (x.toNat : Int) := by rw [IntKind.wrap_u32']; omega
  rw [e, BitVec.ofInt_natCast, BitVec.ofNat_toNat]
  exact BitVec.setWidth_eq x
theorem xor_assoc32 (a b c : Int) : bits .xor .u32 (bits .xor .u32 a b) c = bits .xor .u32 a (bits .xor .u32 b c) := by
  show IntKind.u32.wrap ((BitVec.ofInt 32 (IntKind.u32.wrap ((BitVec.ofInt 32 a ^^^ BitVec.ofInt 32 b).toNat : Int)) ^^^ BitVec.ofInt 32 c).toNat : Int) = IntKind.u32.wrap ((BitVec.ofInt 32 a ^^^ BitVec.ofInt 32 (IntKind.u32.wrap ((BitVec.ofInt 32 b ^^^ BitVec.ofInt 32 c).toNat : Int))).toNat : Int)
  rw [ofInt_wrap32, ofInt_wrap32, BitVec.xor_assoc]
theorem xor_comm32 (a b : Int) : bits .xor .u32 a b = bits .xor .u32 b a := by
  show IntKind.u32.wrap ((BitVec.ofInt 32 a ^^^ BitVec.ofInt 32 b).toNat : Int) = IntKind.u32.wrap ((BitVec.ofInt 32 b ^^^ BitVec.ofInt 32 a).toNat : Int)
  rw [BitVec.xor_comm]
theorem add3 (a b x : Int) : (a + (b + x)) % 4294967296 = ((a + b) % 4294967296 + x) % 4294967296 := by omega
theorem results_tmp4 {fn : Func} {t u v x : Tmp} (h : fn.results = #[.tmp t, .tmp u, .tmp v, .tmp x]) (tmps : Array Value) (P : Program) (w : World) :
    (results fn tmps).run P w = .ok (.tuple #[tmps.getD t undef, tmps.getD u undef, tmps.getD v undef, tmps.getD x undef]) w := by
  simp [results, h]
theorem results_row_tmp {P : Program} {fn : Func} {p q : Tmp} {ty : TypeId} (h : fn.results = #[.cell p ty, .tmp q]) (tmps : Array Value) (w : World) (g : Nat) (t : TypeId) (cs : Array Value) (fr : Nat × Nat) (d : TypeDesc)
    (hp : tmps.getD p undef = .pointer (some ⟨g, 0, none⟩)) (hg : w.heap[g]? = some (.cells cs t fr))
    (hu : P.underlying ty = some d) (hd : (match d with | .struct _ | .array _ _ => true | _ => false) = true) (hi : (P.info? ty).map (·.size) = some cs.size) :
    (results fn tmps).run P w = .ok (.tuple #[.agg cs, tmps.getD q undef]) w := by
  have hp' : tmps[p]?.getD undef = .pointer (some ⟨g, 0, none⟩) := by simpa using hp
  simp [results, h, hp', asAddr, run_loadVar_row w g t ty cs fr d hg hu hd hi]
/-- Half of a mixing: by one word, with its two turns. -/
def half (p q r s : Int) (V : List Int) (a b c d : Nat) (x : Int) : List Int := mx2 r s (mx3 (mx2 p q (mx1 V a b x) d a) c d) b c
theorem mixL_half (V : List Int) (a b c d : Nat) (x y : Int) : mixL V a b c d x y = half 256 16777216 128 33554432 (half 65536 65536 4096 1048576 V a b c d x) a b c d y := rfl
theorem half_len (p q r s : Int) (V : List Int) (a b c d : Nat) (x : Int) (h : V.length = 16) : (half p q r s V a b c d x).length = 16 := by simp [half, mx1, mx2, mx3, h]
/-- The four words behind half of a mixing. -/
def hA (a b x : Int) : Int := ((a + b) % 4294967296 + x) % 4294967296
def hD (p q a b d x : Int) : Int := rot p q (bits .xor .u32 d (hA a b x))
def hC (p q a b c d x : Int) : Int := (c + hD p q a b d x) % 4294967296
def hB (p q r s a b c d x : Int) : Int := rot r s (bits .xor .u32 b (hC p q a b c d x))
theorem at_set_same (V : List Int) (i : Nat) (x : Int) (h : i < V.length) : at_ (V.set i x) i = x := by simp [at_, h]
theorem at_set_other (V : List Int) (i j : Nat) (x : Int) (h : i ≠ j) : at_ (V.set i x) j = at_ V j := by simp [at_, h]
theorem half_eq (p q r s : Int) (V : List Int) (a b c d : Nat) (x : Int) (hV : V.length = 16) (ha : a < 16) (hb : b < 16) (hc : c < 16) (hd : d < 16) (hab : a ≠ b) (hac : a ≠ c) (had : a ≠ d) (hbc : b ≠ c) (hbd : b ≠ d) (hcd : c ≠ d) :
    half p q r s V a b c d x = (((V.set a (hA (at_ V a) (at_ V b) x)).set b (hB p q r s (at_ V a) (at_ V b) (at_ V c) (at_ V d) x)).set c (hC p q (at_ V a) (at_ V b) (at_ V c) (at_ V d) x)).set d (hD p q (at_ V a) (at_ V b) (at_ V d) x) := by
  unfold half
  have e1 : mx1 V a b x = V.set a (hA (at_ V a) (at_ V b) x) := rfl
  rw [e1]
  have e2 : mx2 p q (V.set a (hA (at_ V a) (at_ V b) x)) d a = (V.set a (hA (at_ V a) (at_ V b) x)).set d (hD p q (at_ V a) (at_ V b) (at_ V d) x) := by
    unfold mx2
    rw [at_set_other _ _ _ _ had, at_set_same _ _ _ (by omega)]; rfl
  rw [e2]
  have e3 : mx3 ((V.set a (hA (at_ V a) (at_ V b) x)).set d (hD p q (at_ V a) (at_ V b) (at_ V d) x)) c d = ((V.set a (hA (at_ V a) (at_ V b) x)).set d (hD p q (at_ V a) (at_ V b) (at_ V d) x)).set c (hC p q (at_ V a) (at_ V b) (at_ V c) (at_ V d) x) := by
    unfold mx3
    rw [at_set_same _ _ _ (by simp; omega), at_set_other _ _ _ _ (Ne.symm hcd), at_set_other _ _ _ _ hac]; rfl
  rw [e3]
  unfold mx2
  rw [at_set_same _ _ _ (by simp; omega), at_set_other _ _ _ _ (Ne.symm hbc), at_set_other _ _ _ _ (Ne.symm hbd), at_set_other _ _ _ _ hab]
  rw [List.set_comm _ _ (Ne.symm hcd), List.set_comm _ _ (Ne.symm hbd), List.set_comm _ _ (Ne.symm hbc)]
  rfl
/-- Four words of one row written. -/
def put4 (w : World) (g a b c d : Nat) (xa xb xc xd : Int) : World := (((w.setCell ⟨g, a, none⟩ (.int .u32 xa)).setCell ⟨g, b, none⟩ (.int .u32 xb)).setCell ⟨g, c, none⟩ (.int .u32 xc)).setCell ⟨g, d, none⟩ (.int .u32 xd)
theorem put4_row {w : World} {g : Nat} {t : TypeId} {U : List Int} (h : Row w g t U) (a b c d : Nat) (xa xb xc xd : Int) : Row (put4 w g a b c d xa xb xc xd) g t ((((U.set a xa).set b xb).set c xc).set d xd) := (((h.set a xa).set b xb).set c xc).set d xd
theorem put4_other (w : World) (g a b c d : Nat) (xa xb xc xd : Int) (k : Nat) (hk : k ≠ g) : (put4 w g a b c d xa xb xc xd).heap[k]? = w.heap[k]? := by
  unfold put4
  rw [Below.heap_setCell _ _ _ _ (by simpa using hk), Below.heap_setCell _ _ _ _ (by simpa using hk), Below.heap_setCell _ _ _ _ (by simpa using hk), Below.heap_setCell _ _ _ _ (by simpa using hk)]
theorem put4_size (w : World) (g a b c d : Nat) (xa xb xc xd : Int) : (put4 w g a b c d xa xb xc xd).heap.size = w.heap.size := by simp [put4]
theorem put4_bel {B : Nat} {w0 w : World} (h : Below B w0 w) (g a b c d : Nat) (xa xb xc xd : Int) (hg : B ≤ g) : Below B w0 (put4 w g a b c d xa xb xc xd) :=
  (((h.setCell (p := ⟨g, a, none⟩) hg _).setCell (p := ⟨g, b, none⟩) hg _).setCell (p := ⟨g, c, none⟩) hg _).setCell (p := ⟨g, d, none⟩) hg _
end Go.Proofs.Ytchneiefjjcccaa
