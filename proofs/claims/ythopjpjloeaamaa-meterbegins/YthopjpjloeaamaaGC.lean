/-
  Words of 32 bits in lists and in rows of memory; the mixing of BLAKE2s; a region that draws and writes at its end: of no program.
  More on words of 32 bits: turning, exclusive or, half of a mixing: of no program.
  The package-level tables of blake, as the walks want them.
  The words of a block, out of its bytes: of no program.
  What a block makes of the words, in lists: of no program.
  Rows of bytes in memory: as a string; a string copied over one: of no program.
  All of a text, block by block, in lists: of no program.
-/
import Derived.Test.YthopjpjloeaamaaGB
import Derived.BigRegion
import Derived.BigQuiet
import Derived.StillTailTactics
import Derived.Laws.Rows
import Derived.Laws.Tables
import Derived.Laws.CopyOwn
import Derived.Test.YthopjpjloeaamaaProg
import Derived.Lib.BufferWrite
import Derived.Lib.AppendStr
namespace Go.Proofs.Ythopjpjloeaamaa
set_option maxRecDepth 100000
open Go.RowKit
/-- A region that draws its order, reads, and writes at its end alone: the world behind the draw under its own name. -/
theorem region_tail {P : Program} {id : Nat} {Q : Exit → Act → World → Prop} {a : Act} {w : World} {l : List Oper} (n : Nat) (hm : P.follows .mixedOrders = true) (hB : Region.lexTailB .any l.toArray n = true)
    (h : wpStill P l.toArray w.drew (fun a' => wpList P l.toArray Q (l.drop n) a' w.drew) (l.take n) a) : (Code.region id l.toArray true).wp P Q a w :=
  wp_region_still_tail n hm hB h
/-- A word turned to the right: p = 2^n, q = 2^(32-n). -/
def rot (p q x : Int) : Int := bits .or .u32 (x / p) (x * q % 4294967296)
def wv (V : List Int) : Array Value := (V.map (Value.int .u32)).toArray
theorem wv_get (V : List Int) (i : Nat) (h : i < V.length) : (wv V)[i]? = some (.int .u32 V[i]) := by simp [wv, h]
theorem wv_getE (V : List Int) (i : Nat) (h : i < (wv V).size) : (wv V)[i]'h = .int .u32 (V[i]'(by simpa [wv] using h)) := by simp [wv]
theorem wv_set (V : List Int) (i : Nat) (x : Int) : (wv V).setIfInBounds i (.int .u32 x) = wv (V.set i x) := by simp [wv]
theorem wv_size (V : List Int) : (wv V).size = V.length := by simp [wv]
theorem wv_one (V : List Int) : (wv V).all (·.oneCell') = true := by simp [wv, Value.oneCell']
/-- v[i], of a list of words. -/
def at_ (V : List Int) (i : Nat) : Int := V.getD i 0
theorem at_eq (V : List Int) (i : Nat) (h : i < V.length) : V[i]'h = at_ V i := by simp [at_, h]
def mx1 (V : List Int) (a b : Nat) (x : Int) : List Int := V.set a (((at_ V a + at_ V b) % 4294967296 + x) % 4294967296)
def mx2 (p q : Int) (V : List Int) (d a : Nat) : List Int := V.set d (rot p q (bits .xor .u32 (at_ V d) (at_ V a)))
def mx3 (V : List Int) (c d : Nat) : List Int := V.set c ((at_ V c + at_ V d) % 4294967296)
/-- The mixing of the document. -/
def mixL (V : List Int) (a b c d : Nat) (x y : Int) : List Int :=
  mx2 128 33554432 (mx3 (mx2 256 16777216 (mx1 (mx2 4096 1048576 (mx3 (mx2 65536 65536 (mx1 V a b x) d a) c d) b c) a b y) d a) c d) b c
theorem mx1_len (V : List Int) (a b : Nat) (x : Int) (h : V.length = 16) : (mx1 V a b x).length = 16 := by simp [mx1, h]
theorem mx2_len (p q : Int) (V : List Int) (d a : Nat) (h : V.length = 16) : (mx2 p q V d a).length = 16 := by simp [mx2, h]
theorem mx3_len (V : List Int) (c d : Nat) (h : V.length = 16) : (mx3 V c d).length = 16 := by simp [mx3, h]
theorem mixL_len (V : List Int) (a b c d : Nat) (x y : Int) (h : V.length = 16) : (mixL V a b c d x y).length = 16 := by simp [mixL, mx1, mx2, mx3, h]
/-- Block g is a row of the words V. -/
def Row (w : World) (g : Nat) (t : TypeId) (V : List Int) : Prop := w.heap[g]? = some (.cells (wv V) t (0, 0))
theorem Row.lt {w : World} {g : Nat} {t : TypeId} {V : List Int} (h : Row w g t V) : g < w.heap.size := by
  rcases Nat.lt_or_ge g w.heap.size with h' | h'
  · exact h'
  · simp [Row, Array.getElem?_eq_none h'] at h
theorem Row.cell {w : World} {g : Nat} {t : TypeId} {V : List Int} (h : Row w g t V) (i : Nat) (hi : i < V.length) : w.cell? ⟨g, i, none⟩ = some (.int .u32 V[i]) := by
  rw [cell_of_row w g i _ _ _ h, wv_get V i hi]
theorem Row.frozen {w : World} {g : Nat} {t : TypeId} {V : List Int} (h : Row w g t V) (i : Nat) : w.frozen? ⟨g, i, none⟩ = false := frozen_of_row w g i _ _ h
theorem Row.set {w : World} {g : Nat} {t : TypeId} {V : List Int} (h : Row w g t V) (i : Nat) (x : Int) : Row (w.setCell ⟨g, i, none⟩ (.int .u32 x)) g t (V.set i x) := by
  have := heap_setCell_same w g i _ _ (.int .u32 x) h
  unfold Row
  rw [this, wv_set]
theorem Row.other {w : World} {g : Nat} {t : TypeId} {V : List Int} (h : Row w g t V) (g' i : Nat) (x : Value) (hne : g ≠ g') : Row (w.setCell ⟨g', i, none⟩ x) g t V := by
  unfold Row
  rw [heap_setCell_other w ⟨g', i, none⟩ g x hne]; exact h
theorem Row.drew {w : World} {g : Nat} {t : TypeId} {V : List Int} (h : Row w g t V) : Row w.drew g t V := h
theorem Row.below {w w' : World} {g : Nat} {t : TypeId} {V : List Int} (h : Row w g t V) (hb : Below w.heap.size w w') : Row w' g t V := (hb.block g h.lt).trans h
theorem Row.alloc {w : World} {g : Nat} {t : TypeId} {V : List Int} (h : Row w g t V) (o : Obj) : Row (w.alloc o) g t V := (heap_alloc_old w o h.lt).trans h
theorem Row.new (w : World) (V : List Int) (t : TypeId) : Row (w.alloc (.cells (wv V) t)) w.heap.size t V := heap_alloc_new w _
theorem Row.setRow {w : World} {g : Nat} {t : TypeId} {V : List Int} (h : Row w g t V) (V' : List Int) : Row (w.setRow g (wv V')) g t V' := setRow_heap _ _ _ _ _ _ h
theorem Row.setRow_other {w : World} {g : Nat} {t : TypeId} {V : List Int} (h : Row w g t V) (g' : Nat) (cs : Array Value) (hne : g ≠ g') : Row (w.setRow g' cs) g t V := (_root_.Go.setRow_other w g' g cs hne).trans h
theorem wrap_u32_byte (b : UInt8) : IntKind.u32.wrap (b.toNat : Int) = b.toNat := by
  have := b.toNat_lt
  rw [IntKind.wrap_u32']; omega
theorem ret_int {k : IntKind} {a b : Int} (h : a = b) : Ending.returned (.int k a) = .returned (.int k b) := by rw [h]
def firstL : List Int := [1779033703, 3144134277, 1013904242, 2773480762, 1359893119, 2600822924, 528734635, 1541459225]
/-- The orders of the rounds. -/
def sig : List (List Nat) := [[0,1,2,3,4,5,6,7,8,9,10,11,12,13,14,15],[14,10,4,8,9,15,13,6,1,12,0,2,11,7,5,3],[11,8,12,0,5,2,15,13,10,14,3,6,7,1,9,4],[7,9,3,1,13,12,11,14,2,6,5,10,4,0,15,8],[9,0,5,7,2,4,10,15,14,1,11,12,6,8,3,13],[2,12,6,10,0,11,8,3,4,13,7,5,15,14,1,9],[12,5,1,15,14,13,4,10,0,7,6,3,9,2,8,11],[13,11,7,14,12,1,3,9,5,0,15,4,8,6,2,10],[6,15,14,9,11,3,0,8,12,2,13,7,1,4,10,5],[10,2,8,4,7,6,1,5,15,11,9,14,3,12,13,0]]
def sg (r i : Nat) : Nat := (sig.getD r []).getD i 0
/-- The figure of a number below 16. -/
def fig (n : Nat) : UInt8 := if n < 10 then UInt8.ofNat (48 + n) else UInt8.ofNat (87 + n)
def ordL (r : Nat) : List UInt8 := (sig.getD r []).map fig
end Go.Proofs.Ythopjpjloeaamaa
namespace Go.Proofs.Ythopjpjloeaamaa
set_option maxRecDepth 100000
open Go.RowKit
set_option linter.unusedVariables false
theorem or_comm32 (a b : Int) : bits .or .u32 a b = bits .or .u32 b a := by
  show IntKind.u32.wrap ((BitVec.ofInt 32 a ||| BitVec.ofInt 32 b).toNat : Int) = IntKind.u32.wrap ((BitVec.ofInt 32 b ||| BitVec.ofInt 32 a).toNat : Int)
  rw [BitVec.or_comm]
theorem ofInt_wrap32 (x : BitVec 32) : BitVec.ofInt 32 (IntKind.u32.wrap (x.toNat : Int)) = x := by
  have h := x.isLt
  have e : IntKind.u32.wrap (x.toNat : Int) = (x.toNat : Int) := by rw [IntKind.wrap_u32']; omega
  rw [e, BitVec.ofInt_natCast, BitVec.ofNat_toNat]
  exact BitVec.setWidth_eq x
theorem xor_assoc32 (a b c : Int) : bits .xor .u32 (bits .xor .u32 a b) c = bits .xor .u32 a (bits .xor .u32 b c) := by
  show IntKind.u32.wrap ((BitVec.ofInt 32 (IntKind.u32.wrap ((BitVec.ofInt 32 a ^^^ BitVec.ofInt 32 b).toNat : Int)) ^^^ BitVec.ofInt 32 c).toNat : Int) = IntKind.u32.wrap ((BitVec.ofInt 32 a ^^^ BitVec.ofInt 32 (IntKind.u32.wrap ((BitVec.ofInt 32 b ^^^ BitVec.ofInt 32 c).toNat : Int))).toNat : Int)
  rw [ofInt_wrap32, ofInt_wrap32, BitVec.xor_assoc]
theorem xor_comm32 (a b : Int) : bits .xor .u32 a b = bits .xor .u32 b a := by
  show IntKind.u32.wrap ((BitVec.ofInt 32 a ^^^ BitVec.ofInt 32 b).toNat : Int) = IntKind.u32.wrap ((BitVec.ofInt 32 b ^^^ BitVec.ofInt 32 a).toNat : Int)
  rw [BitVec.xor_comm]
theorem add3 (a b x : Int) : (a + (b + x)) % 4294967296 = ((a + b) % 4294967296 + x) % 4294967296 := by omega
theorem results_tmp4 {fn : Func} {t u v x : Tmp} (h : fn.results = #[.tmp t, .tmp u, .tmp v, .tmp x]) (tmps : Array Value) (P : Program) (w : World) :
    (results fn tmps).run P w = .ok (.tuple #[tmps.getD t undef, tmps.getD u undef, tmps.getD v undef, tmps.getD x undef]) w := by
  simp [results, h]
theorem results_row_tmp {P : Program} {fn : Func} {p q : Tmp} {ty : TypeId} (h : fn.results = #[.cell p ty, .tmp q]) (tmps : Array Value) (w : World) (g : Nat) (t : TypeId) (cs : Array Value) (fr : Nat × Nat) (d : TypeDesc)
    (hp : tmps.getD p undef = .pointer (some ⟨g, 0, none⟩)) (hg : w.heap[g]? = some (.cells cs t fr))
    (hu : P.underlying ty = some d) (hd : (match d with | .struct _ | .array _ _ => true | _ => false) = true) (hi : (P.info? ty).map (·.size) = some cs.size) :
    (results fn tmps).run P w = .ok (.tuple #[.agg cs, tmps.getD q undef]) w := by
  have hp' : tmps[p]?.getD undef = .pointer (some ⟨g, 0, none⟩) := by simpa using hp
  simp [results, h, hp', asAddr, run_loadVar_row w g t ty cs fr d hg hu hd hi]
/-- Half of a mixing: by one word, with its two turns. -/
def half (p q r s : Int) (V : List Int) (a b c d : Nat) (x : Int) : List Int := mx2 r s (mx3 (mx2 p q (mx1 V a b x) d a) c d) b c
theorem mixL_half (V : List Int) (a b c d : Nat) (x y : Int) : mixL V a b c d x y = half 256 16777216 128 33554432 (half 65536 65536 4096 1048576 V a b c d x) a b c d y := rfl
theorem half_len (p q r s : Int) (V : List Int) (a b c d : Nat) (x : Int) (h : V.length = 16) : (half p q r s V a b c d x).length = 16 := by simp [half, mx1, mx2, mx3, h]
/-- The four words behind half of a mixing. -/
def hA (a b x : Int) : Int := ((a + b) % 4294967296 + x) % 4294967296
def hD (p q a b d x : Int) : Int := rot p q (bits .xor .u32 d (hA a b x))
def hC (p q a b c d x : Int) : Int := (c + hD p q a b d x) % 4294967296
def hB (p q r s a b c d x : Int) : Int := rot r s (bits .xor .u32 b (hC p q a b c d x))
theorem at_set_same (V : List Int) (i : Nat) (x : Int) (h : i < V.length) : at_ (V.set i x) i = x := by simp [at_, h]
theorem at_set_other (V : List Int) (i j : Nat) (x : Int) (h : i ≠ j) : at_ (V.set i x) j = at_ V j := by simp [at_, h]
theorem half_eq (p q r s : Int) (V : List Int) (a b c d : Nat) (x : Int) (hV : V.length = 16) (ha : a < 16) (hb : b < 16) (hc : c < 16) (hd : d < 16) (hab : a ≠ b) (hac : a ≠ c) (had : a ≠ d) (hbc : b ≠ c) (hbd : b ≠ d) (hcd : c ≠ d) :
    half p q r s V a b c d x = (((V.set a (hA (at_ V a) (at_ V b) x)).set b (hB p q r s (at_ V a) (at_ V b) (at_ V c) (at_ V d) x)).set c (hC p q (at_ V a) (at_ V b) (at_ V c) (at_ V d) x)).set d (hD p q (at_ V a) (at_ V b) (at_ V d) x) := by
  unfold half
  have e1 : mx1 V a b x = V.set a (hA (at_ V a) (at_ V b) x) := rfl
  rw [e1]
  have e2 : mx2 p q (V.set a (hA (at_ V a) (at_ V b) x)) d a = (V.set a (hA (at_ V a) (at_ V b) x)).set d (hD p q (at_ V a) (at_ V b) (at_ V d) x) := by
    unfold mx2
    rw [at_set_other _ _ _ _ had, at_set_same _ _ _ (by omega)]; rfl
  rw [e2]
  have e3 : mx3 ((V.set a (hA (at_ V a) (at_ V b) x)).set d (hD p q (at_ V a) (at_ V b) (at_ V d) x)) c d = ((V.set a (hA (at_ V a) (at_ V b) x)).set d (hD p q (at_ V a) (at_ V b) (at_ V d) x)).set c (hC p q (at_ V a) (at_ V b) (at_ V c) (at_ V d) x) := by
    unfold mx3
    rw [at_set_same _ _ _ (by simp; omega), at_set_other _ _ _ _ (Ne.symm hcd), at_set_other _ _ _ _ hac]; rfl
  rw [e3]
  unfold mx2
  rw [at_set_same _ _ _ (by simp; omega), at_set_other _ _ _ _ (Ne.symm hbc), at_set_other _ _ _ _ (Ne.symm hbd), at_set_other _ _ _ _ hab]
  rw [List.set_comm _ _ (Ne.symm hcd), List.set_comm _ _ (Ne.symm hbd), List.set_comm _ _ (Ne.symm hbc)]
  rfl
/-- Four words of one row written. -/
def put4 (w : World) (g a b c d : Nat) (xa xb xc xd : Int) : World := (((w.setCell ⟨g, a, none⟩ (.int .u32 xa)).setCell ⟨g, b, none⟩ (.int .u32 xb)).setCell ⟨g, c, none⟩ (.int .u32 xc)).setCell ⟨g, d, none⟩ (.int .u32 xd)
theorem put4_row {w : World} {g : Nat} {t : TypeId} {U : List Int} (h : Row w g t U) (a b c d : Nat) (xa xb xc xd : Int) : Row (put4 w g a b c d xa xb xc xd) g t ((((U.set a xa).set b xb).set c xc).set d xd) := (((h.set a xa).set b xb).set c xc).set d xd
theorem put4_other (w : World) (g a b c d : Nat) (xa xb xc xd : Int) (k : Nat) (hk : k ≠ g) : (put4 w g a b c d xa xb xc xd).heap[k]? = w.heap[k]? := by
  unfold put4
  rw [Below.heap_setCell _ _ _ _ (by simpa using hk), Below.heap_setCell _ _ _ _ (by simpa using hk), Below.heap_setCell _ _ _ _ (by simpa using hk), Below.heap_setCell _ _ _ _ (by simpa using hk)]
theorem put4_size (w : World) (g a b c d : Nat) (xa xb xc xd : Int) : (put4 w g a b c d xa xb xc xd).heap.size = w.heap.size := by simp [put4]
theorem put4_bel {B : Nat} {w0 w : World} (h : Below B w0 w) (g a b c d : Nat) (xa xb xc xd : Int) (hg : B ≤ g) : Below B w0 (put4 w g a b c d xa xb xc xd) :=
  (((h.setCell (p := ⟨g, a, none⟩) hg _).setCell (p := ⟨g, b, none⟩) hg _).setCell (p := ⟨g, c, none⟩) hg _).setCell (p := ⟨g, d, none⟩) hg _
end Go.Proofs.Ythopjpjloeaamaa
namespace Go.Proofs.Ythopjpjloeaamaa
set_option maxRecDepth 100000
open Go.RowKit
set_option linter.unusedVariables false
/-- The places that are mixed in a round. -/
def qd : List (List Nat) := [[0,4,8,12],[1,5,9,13],[2,6,10,14],[3,7,11,15],[0,5,10,15],[1,6,11,12],[2,7,8,13],[3,4,9,14]]
def qa (k j : Nat) : Nat := (qd.getD k []).getD j 0
def mixV : Array Value := (qd.flatten.map fun (n : Nat) => Value.int .i64 (n : Int)).toArray
/-- The orders, as numbers of 64 bits. -/
def ords : List Nat := [81985529216486895, 16881918945140062035, 13312731748010193300, 8733003861693448440, 10400822202260547645, 3200383143768358425, 14204332651957162635, 15816291393287259690, 8064173457993569445, 11710614767857974480]
def ordV : Array Value := (ords.map fun (n : Nat) => Value.int .u64 (n : Int)).toArray
/-- The package-level tables stand as their text lays them. -/
structure G (w : World) : Prop where
  g0 : ∃ t, w.heap[0]? = some (.cells (wv firstL) t (0, 0))
  g1 : ∃ t, w.heap[1]? = some (.cells mixV t (0, 0))
  g2 : ∃ t, w.heap[2]? = some (.cells ordV t (0, 0))
theorem G.size {w : World} (h : G w) : 3 ≤ w.heap.size := by
  obtain ⟨t, ht⟩ := h.g2
  rcases Nat.lt_or_ge 2 w.heap.size with h' | h'
  · exact h'
  · simp [Array.getElem?_eq_none h'] at ht
theorem G.of {w w' : World} (h : G w) (hb : ∀ g, g < 3 → w'.heap[g]? = w.heap[g]?) : G w' := by
  obtain ⟨⟨t0, h0⟩, ⟨t1, h1⟩, ⟨t2, h2⟩⟩ := h
  exact ⟨⟨t0, (hb 0 (by omega)).trans h0⟩, ⟨t1, (hb 1 (by omega)).trans h1⟩, ⟨t2, (hb 2 (by omega)).trans h2⟩⟩
theorem G.below {w w' : World} {b : Nat} (h : G w) (hb : Below b w w') (h3 : 3 ≤ b) : G w' := h.of fun g hg => hb.block g (by omega)
theorem G.mix {w : World} (h : G w) (k j : Nat) (hk : k < 8) (hj : j < 4) : w.cell? ⟨1, 4 * k + j, none⟩ = some (.int .i64 (qa k j)) := by
  obtain ⟨t, ht⟩ := h.g1
  rw [cell_of_row w 1 _ _ _ _ ht]
  have h1 : ∀ k, k < 8 → ∀ j, j < 4 → qd.flatten[4 * k + j]? = some (qa k j) := by decide
  unfold mixV
  rw [List.getElem?_toArray, List.getElem?_map, h1 k hk j hj]; rfl
theorem G.ord {w : World} (h : G w) (r : Nat) (hr : r < 10) : w.cell? ⟨2, r, none⟩ = some (.int .u64 (ords.getD r 0 : Nat)) := by
  obtain ⟨t, ht⟩ := h.g2
  rw [cell_of_row w 2 _ _ _ _ ht]
  have h1 : ∀ r, r < 10 → ords[r]? = some (ords.getD r 0) := by decide
  unfold ordV
  rw [List.getElem?_toArray, List.getElem?_map, h1 r hr]; rfl
theorem G.first {w : World} (h : G w) (i : Nat) (hi : i < 8) : w.cell? ⟨0, i, none⟩ = some (.int .u32 (at_ firstL i)) := by
  obtain ⟨t, ht⟩ := h.g0
  rw [cell_of_row w 0 _ _ _ _ ht, wv_get firstL i (by simpa [firstL] using hi), at_eq]
theorem qa_lt (k j : Nat) (hk : k < 8) (hj : j < 4) : qa k j < 16 := by
  have h1 : ∀ k, k < 8 → ∀ j, j < 4 → qa k j < 16 := by decide
  exact h1 k hk j hj
theorem qa_ne (k : Nat) (hk : k < 8) : qa k 0 ≠ qa k 1 ∧ qa k 0 ≠ qa k 2 ∧ qa k 0 ≠ qa k 3 ∧ qa k 1 ≠ qa k 2 ∧ qa k 1 ≠ qa k 3 ∧ qa k 2 ≠ qa k 3 := by
  have h1 : ∀ k, k < 8 → qa k 0 ≠ qa k 1 ∧ qa k 0 ≠ qa k 2 ∧ qa k 0 ≠ qa k 3 ∧ qa k 1 ≠ qa k 2 ∧ qa k 1 ≠ qa k 3 ∧ qa k 2 ≠ qa k 3 := by decide
  exact h1 k hk
/-- A round, as far as its first k mixings. -/
def rk (M V : List Int) (s : Nat → Nat) : Nat → List Int
  | 0 => V
  | k + 1 => mixL (rk M V s k) (qa k 0) (qa k 1) (qa k 2) (qa k 3) (at_ M (s (2 * k))) (at_ M (s (2 * k + 1)))
theorem rk_len (M V : List Int) (s : Nat → Nat) (h : V.length = 16) (k : Nat) : (rk M V s k).length = 16 := by
  induction k with
  | zero => exact h
  | succ k ih => exact mixL_len _ _ _ _ _ _ _ ih
theorem rk_congr (M V : List Int) (s s' : Nat → Nat) (k : Nat) (h : ∀ i, i < 2 * k → s i = s' i) : rk M V s k = rk M V s' k := by
  induction k with
  | zero => rfl
  | succ k ih =>
    unfold rk
    rw [ih (fun i hi => h i (by omega)), h (2 * k) (by omega), h (2 * k + 1) (by omega)]
end Go.Proofs.Ythopjpjloeaamaa
namespace Go.Proofs.Ythopjpjloeaamaa
set_option maxRecDepth 100000
open Go.RowKit
set_option linter.unusedVariables false
def Z8 : List Int := List.replicate 8 0
def Z16 : List Int := List.replicate 16 0
def bt (B : List UInt8) (i : Nat) : Nat := (B.getD i 0).toNat
theorem bt_lt (B : List UInt8) (i : Nat) : bt B i < 256 := (B.getD i 0).toNat_lt
theorem bt_eq (B : List UInt8) (i : Nat) (h : i < B.length) : B[i].toNat = bt B i := by simp [bt, h]
/-- The i-th word of a block. -/
def wd (B : List UInt8) (i : Nat) : Int := ((bt B (4 * i) + 256 * bt B (4 * i + 1) + 65536 * bt B (4 * i + 2) + 16777216 * bt B (4 * i + 3) : Nat) : Int)
/-- The words of a block, as far as they are laid. -/
def mp (B : List UInt8) (k : Nat) : List Int := (List.range 16).map fun i => if i < k then wd B i else 0
theorem mp_len (B : List UInt8) (k : Nat) : (mp B k).length = 16 := by simp [mp]
theorem mp_set (B : List UInt8) (k : Nat) : (mp B k).set k (wd B k) = mp B (k + 1) := by
  apply List.ext_getElem
  · simp [mp]
  · intro i h1 h2
    simp only [List.getElem_set, mp, List.getElem_map, List.getElem_range]
    by_cases h : k = i
    · subst h; simp
    · rw [if_neg h]
      by_cases h3 : i < k
      · rw [if_pos h3, if_pos (by omega)]
      · rw [if_neg h3, if_neg (by omega)]
/-- The first c bytes of a word. -/
def wdc (B : List UInt8) (q : Nat) : Nat → Int
  | 0 => 0
  | 1 => (bt B (4 * q) : Nat)
  | 2 => (bt B (4 * q) + 256 * bt B (4 * q + 1) : Nat)
  | _ => (bt B (4 * q) + 256 * bt B (4 * q + 1) + 65536 * bt B (4 * q + 2) : Nat)
/-- The words of a block behind q words and c bytes. -/
def mq (B : List UInt8) (q c : Nat) : List Int := (mp B q).set q (wdc B q c)
theorem mq_len (B : List UInt8) (q c : Nat) : (mq B q c).length = 16 := by simp [mq, mp_len]
theorem mq_at (B : List UInt8) (q c : Nat) (h : q < 16) : at_ (mq B q c) q = wdc B q c := at_set_same _ _ _ (by rw [mp_len]; exact h)
theorem mq_set (B : List UInt8) (q c : Nat) (x : Int) : (mq B q c).set q x = (mp B q).set q x := by simp [mq]
theorem mq_zero (B : List UInt8) (q : Nat) : mq B q 0 = mp B q := by
  apply List.ext_getElem
  · simp [mq]
  · intro i h1 h2
    simp only [mq, List.getElem_set]
    by_cases h : q = i
    · subst h; simp [mp, wdc]
    · rw [if_neg h]
theorem or_part (i : Nat) (hi : i ≤ 24) (x y : Nat) (hx : x < 2 ^ i) (hy : y < 256) : bits .or .u32 (x : Int) ((y * 2 ^ i : Nat) : Int) = ((x + y * 2 ^ i : Nat) : Int) := by
  have hp : (2 : Nat) ^ i ≤ 2 ^ 24 := Nat.pow_le_pow_right (by decide) hi
  have hp0 : 0 < (2 : Nat) ^ i := Nat.two_pow_pos i
  have hym : y * 2 ^ i < 4294967296 := by
    have : y * 2 ^ i ≤ 255 * 2 ^ 24 := Nat.mul_le_mul (by omega) hp
    omega
  rw [u32_or_nat _ _ (by omega) hym]
  have h := Nat.two_pow_add_eq_or_of_lt hx y
  rw [Nat.or_comm, Nat.mul_comm y, ← h]; omega
theorem wdc_step (B : List UInt8) (q : Nat) : bits .or .u32 (wdc B q 0) ((bt B (4 * q) : Nat) : Int) = wdc B q 1 ∧ bits .or .u32 (wdc B q 1) (((bt B (4 * q + 1) : Nat) : Int) * 256) = wdc B q 2 ∧ bits .or .u32 (wdc B q 2) (((bt B (4 * q + 2) : Nat) : Int) * 65536) = wdc B q 3 ∧ bits .or .u32 (wdc B q 3) (((bt B (4 * q + 3) : Nat) : Int) * 16777216) = wd B q := by
  have h0 := bt_lt B (4 * q)
  have h1 := bt_lt B (4 * q + 1)
  have h2 := bt_lt B (4 * q + 2)
  have h3 := bt_lt B (4 * q + 3)
  refine ⟨?_, ?_, ?_, ?_⟩
  · have := or_part 0 (by decide) 0 (bt B (4 * q)) (by decide) h0
    simpa [wdc] using this
  · have := or_part 8 (by decide) (bt B (4 * q)) (bt B (4 * q + 1)) (by omega) h1
    show bits .or .u32 ((bt B (4 * q) : Nat) : Int) _ = ((bt B (4 * q) + 256 * bt B (4 * q + 1) : Nat) : Int)
    rw [show ((bt B (4 * q + 1) : Nat) : Int) * 256 = ((bt B (4 * q + 1) * 2 ^ 8 : Nat) : Int) by omega, this]; omega
  · have := or_part 16 (by decide) (bt B (4 * q) + 256 * bt B (4 * q + 1)) (bt B (4 * q + 2)) (by omega) h2
    show bits .or .u32 ((bt B (4 * q) + 256 * bt B (4 * q + 1) : Nat) : Int) _ = ((bt B (4 * q) + 256 * bt B (4 * q + 1) + 65536 * bt B (4 * q + 2) : Nat) : Int)
    rw [show ((bt B (4 * q + 2) : Nat) : Int) * 65536 = ((bt B (4 * q + 2) * 2 ^ 16 : Nat) : Int) by omega, this]; omega
  · have := or_part 24 (by decide) (bt B (4 * q) + 256 * bt B (4 * q + 1) + 65536 * bt B (4 * q + 2)) (bt B (4 * q + 3)) (by omega) h3
    show bits .or .u32 ((bt B (4 * q) + 256 * bt B (4 * q + 1) + 65536 * bt B (4 * q + 2) : Nat) : Int) _ = ((bt B (4 * q) + 256 * bt B (4 * q + 1) + 65536 * bt B (4 * q + 2) + 16777216 * bt B (4 * q + 3) : Nat) : Int)
    rw [show ((bt B (4 * q + 3) : Nat) : Int) * 16777216 = ((bt B (4 * q + 3) * 2 ^ 24 : Nat) : Int) by omega, this]; omega
/-- The words that the rounds mix, as far as they are laid. -/
def sp (H : List Int) (k : Nat) : List Int := (List.range 16).map fun i => if i < 8 then (if i < k then at_ H i else 0) else (if i - 8 < k then at_ firstL (i - 8) else 0)
theorem sp_len (H : List Int) (k : Nat) : (sp H k).length = 16 := by simp [sp]
theorem sp_set (H : List Int) (k : Nat) (hk : k < 8) : ((sp H k).set k (at_ H k)).set (k + 8) (at_ firstL k) = sp H (k + 1) := by
  apply List.ext_getElem
  · simp [sp]
  · intro i h1 h2
    simp only [List.getElem_set, sp, List.getElem_map, List.getElem_range]
    by_cases h8 : k + 8 = i
    · subst h8
      rw [if_pos rfl, if_neg (by omega), if_pos (by omega), Nat.add_sub_cancel]
    · rw [if_neg h8]
      by_cases h : k = i
      · subst h
        rw [if_pos rfl, if_pos hk, if_pos (by omega)]
      · rw [if_neg h]
        by_cases hi : i < 8
        · rw [if_pos hi, if_pos hi]
          by_cases h3 : i < k
          · rw [if_pos h3, if_pos (by omega)]
          · rw [if_neg h3, if_neg (by omega)]
        · rw [if_neg hi, if_neg hi]
          by_cases h3 : i - 8 < k
          · rw [if_pos h3, if_pos (by omega)]
          · rw [if_neg h3, if_neg (by omega)]
/-- The words that the rounds mix. -/
def spreadL (H : List Int) (t : Nat) (last : Bool) : List Int :=
  let V := ((sp H 8).set 12 (bits .xor .u32 (at_ (sp H 8) 12) ((t : Int) % 4294967296))).set 13 (bits .xor .u32 (at_ (sp H 8) 13) ((t : Int) / 4294967296))
  if last then V.set 14 (bits .xor .u32 (at_ (sp H 8) 14) 4294967295) else V
theorem spreadL_len (H : List Int) (t : Nat) (last : Bool) : (spreadL H t last).length = 16 := by
  unfold spreadL
  cases last <;> simp [sp_len]
end Go.Proofs.Ythopjpjloeaamaa
namespace Go.Proofs.Ythopjpjloeaamaa
set_option maxRecDepth 100000
open Go.RowKit
set_option linter.unusedVariables false
/-- The words behind r rounds. -/
def vr (B : List UInt8) (V : List Int) : Nat → List Int
  | 0 => V
  | r + 1 => rk (mp B 16) (vr B V r) (sg r) 8
theorem vr_len (B : List UInt8) (V : List Int) (h : V.length = 16) (r : Nat) : (vr B V r).length = 16 := by
  induction r with
  | zero => exact h
  | succ r ih => exact rk_len _ _ _ ih 8
/-- The words of a sum behind a block, as far as they are laid. -/
def hx (H V : List Int) (k : Nat) : List Int := (List.range 8).map fun i => if i < k then bits .xor .u32 (at_ H i) (bits .xor .u32 (at_ V i) (at_ V (i + 8))) else at_ H i
theorem hx_len (H V : List Int) (k : Nat) : (hx H V k).length = 8 := by simp [hx]
theorem hx_at (H V : List Int) (k : Nat) (h : k < 8) : at_ (hx H V k) k = at_ H k := by
  have e : at_ (hx H V k) k = (hx H V k)[k]'(by rw [hx_len]; exact h) := (at_eq _ _ _).symm
  rw [e]
  simp [hx]
theorem hx_zero (H V : List Int) (h : H.length = 8) : hx H V 0 = H := by
  apply List.ext_getElem
  · simp [hx, h]
  · intro i h1 h2
    simp [hx, at_, h2]
theorem hx_set (H V : List Int) (k : Nat) (x : Int) (hx' : x = bits .xor .u32 (at_ H k) (bits .xor .u32 (at_ V k) (at_ V (k + 8)))) : (hx H V k).set k x = hx H V (k + 1) := by
  subst hx'
  apply List.ext_getElem
  · simp [hx]
  · intro i h1 h2
    simp only [List.getElem_set, hx, List.getElem_map, List.getElem_range]
    by_cases h : k = i
    · subst h; simp
    · rw [if_neg h]
      by_cases h3 : i < k
      · rw [if_pos h3, if_pos (by omega)]
      · rw [if_neg h3, if_neg (by omega)]
/-- The words behind a block. -/
def blockL (H : List Int) (B : List UInt8) (t : Nat) (last : Bool) : List Int := hx H (vr B (spreadL H t last) 10) 8
theorem blockL_len (H : List Int) (B : List UInt8) (t : Nat) (last : Bool) : (blockL H B t last).length = 8 := hx_len _ _ _
end Go.Proofs.Ythopjpjloeaamaa
namespace Go.Proofs.Ythopjpjloeaamaa
set_option maxRecDepth 100000
open Go.RowKit
set_option linter.unusedVariables false
def bv (l : List UInt8) : Array Value := (Lib.byteCells l).toArray
theorem bv_size (l : List UInt8) : (bv l).size = l.length := by simp [bv, Lib.byteCells]
theorem bv_get (l : List UInt8) (i : Nat) (h : i < l.length) : (bv l)[i]? = some (.int .u8 ((l[i]'h).toNat : Int)) := by simp [bv, Lib.byteCells, h]
theorem bv_set (l : List UInt8) (i : Nat) (x : UInt8) : (bv l).setIfInBounds i (.int .u8 (x.toNat : Int)) = bv (l.set i x) := by simp [bv, Lib.byteCells]
/-- Block g is a row of the bytes l. -/
def BRow (w : World) (g : Nat) (t : TypeId) (l : List UInt8) : Prop := w.heap[g]? = some (.cells (bv l) t (0, 0))
theorem BRow.lt {w : World} {g : Nat} {t : TypeId} {l : List UInt8} (h : BRow w g t l) : g < w.heap.size := by
  rcases Nat.lt_or_ge g w.heap.size with h' | h'
  · exact h'
  · simp [BRow, Array.getElem?_eq_none h'] at h
theorem BRow.cell {w : World} {g : Nat} {t : TypeId} {l : List UInt8} (h : BRow w g t l) (i : Nat) (hi : i < l.length) : w.cell? ⟨g, i, none⟩ = some (.int .u8 ((l[i]'hi).toNat : Int)) := by
  rw [cell_of_row w g i _ _ _ h, bv_get l i hi]
theorem BRow.frozen {w : World} {g : Nat} {t : TypeId} {l : List UInt8} (h : BRow w g t l) (i : Nat) : w.frozen? ⟨g, i, none⟩ = false := frozen_of_row w g i _ _ h
theorem BRow.set {w : World} {g : Nat} {t : TypeId} {l : List UInt8} (h : BRow w g t l) (i : Nat) (x : UInt8) : BRow (w.setCell ⟨g, i, none⟩ (.int .u8 (x.toNat : Int))) g t (l.set i x) := by
  have := heap_setCell_same w g i _ _ (.int .u8 (x.toNat : Int)) h
  unfold BRow
  rw [this, bv_set]
theorem BRow.string {P : Program} {w : World} {g : Nat} {t : TypeId} {l : List UInt8} (h : BRow w g t l) (src e dst : TypeId) (hs : P.underlying src = some (.slice e)) (he : P.underlying e = some (.int .u8)) (hd : P.underlying dst = some .string) (n cap : Nat) (hn : l.length = n) :
    (convert src dst (.slice (some ⟨g, 0, none⟩) n cap)).run P w = .ok (.string ⟨l.toArray⟩) w := by
  have := run_convert_bytes_arg (P := P) w src e hs he g 0 n cap (l.map fun b => (b.toNat : Int)) (by simpa using hn) (fun i hi => by
    rw [Nat.zero_add, h.cell i (by omega)]
    simp [show i < l.length by omega]) dst hd
  rw [this]
  have e : strOfNums (l.map fun b => (b.toNat : Int)) = ⟨l.toArray⟩ := by
    apply ByteArray.ext
    show ((l.map fun b => (b.toNat : Int)).map fun n => UInt8.ofNat n.toNat).toArray = l.toArray
    rw [List.map_map]
    congr 1
    refine (List.map_congr_left fun b _ => ?_).trans (List.map_id l)
    show UInt8.ofNat ((b.toNat : Int)).toNat = b
    simp
  rw [e]
/-- 'copy(dst, s)' of a string that fits, over a row of bytes. -/
theorem wpList_copy_str {P : Program} {w : World} {ops : Array Oper} {rest : List Oper} {o : Oper} {a : Act} {Q : Exit → Act → World → Prop} (hgd : o.guard = none) (d x : Operand) (dT sT : TypeId)
    (hop : o.op = Op.call { callee := Callee.builtin Builtin.copy, args := #[d, x], argTypes := #[dT, sT] }) (elem : TypeId) (hu : P.underlying dT = some (.slice elem)) (hs : (P.info? elem).map (·.size) = some 1)
    (g dLen dCap : Nat) (hd : a.eval d = .slice (some ⟨g, 0, none⟩) dLen dCap) (l m : List UInt8) (hx : a.eval x = .string ⟨m.toArray⟩) (t : TypeId) (hg : BRow w g t l) (h1 : m.length ≤ dLen) (h2 : m.length ≤ l.length)
    (h : wpList P ops Q rest (a.put o.dst (goInt m.length)) (w.setRow g (bv (m ++ l.drop m.length)))) : wpList P ops Q (o :: rest) a w := by
  have hrun := Lib.run_copy_row_string (P := P) w dT sT o.type elem g 0 dLen dCap ⟨m.toArray⟩ (bv l) t hu hs hg (by rw [ba_size]; exact h1) (by rw [ba_size, bv_size]; omega)
  have e : ((bv l).toList.take 0 ++ Lib.byteCells (⟨m.toArray⟩ : ByteArray).data.toList ++ (bv l).toList.drop (0 + (⟨m.toArray⟩ : ByteArray).size)).toArray = bv (m ++ l.drop m.length) := by
    rw [ba_size]
    simp [bv, Lib.byteCells]
  rw [e, ba_size] at hrun
  refine wpList_plain hgd fun _ hK => ?_
  unfold Oper.wp
  simp [execOp, hop, resolve, invoke, builtin, hd, hx, hrun, Result.andThen]
  exact hK _ _ h
/-- Noughts behind a text, up to 64 bytes. -/
def padL (l : List UInt8) : List UInt8 := l ++ List.replicate (64 - l.length) 0
theorem padL_len (l : List UInt8) (h : l.length ≤ 64) : (padL l).length = 64 := by simp [padL]; omega
end Go.Proofs.Ythopjpjloeaamaa
namespace Go.Proofs.Ythopjpjloeaamaa
set_option maxRecDepth 100000
open Go.RowKit
set_option linter.unusedVariables false
/-- The words behind the first k blocks of a text. -/
def fk (H : List Int) (S : List UInt8) : Nat → List Int
  | 0 => H
  | k + 1 => blockL (fk H S k) ((S.drop (64 * k)).take 64) (64 * (k + 1)) false
theorem fk_len (H : List Int) (S : List UInt8) (h : H.length = 8) (k : Nat) : (fk H S k).length = 8 := by
  cases k with
  | zero => exact h
  | succ k => exact blockL_len _ _ _ _
/-- How many blocks are taken ahead of the last one. -/
def nb (S : List UInt8) : Nat := (S.length - 1) / 64
/-- The words behind all of a text. -/
def foldL (H : List Int) (S : List UInt8) : List Int := blockL (fk H S (nb S)) (padL (S.drop (64 * nb S))) S.length true
theorem foldL_len (H : List Int) (S : List UInt8) : (foldL H S).length = 8 := blockL_len _ _ _ _
theorem nb_of (S : List UInt8) (k : Nat) (h1 : k = 0 ∨ 64 * k < S.length) (h2 : S.length ≤ 64 * k + 64) : nb S = k := by
  unfold nb; omega
end Go.Proofs.Ythopjpjloeaamaa
