/-
  Words of 32 bits in lists and in rows of memory; the mixing of BLAKE2s; a region that draws and writes at its end: of no program.
-/
import Derived.Test.YtchneiefjjcccaaZBase
import Derived.BigRegion
import Derived.BigQuiet
import Derived.StillTailTactics
import Derived.Laws.Rows
import Derived.Laws.Tables
import Derived.Laws.CopyOwn
namespace Go.Proofs.Ytchneiefjjcccaa
set_option maxRecDepth 100000
open Go.RowKit
/-- A region that draws its order, reads, and writes at its end alone: the world behind the draw under its own name. -/
theorem region_tail {P : Program} {id : Nat} {Q : Exit → Act → World → Prop} {a : Act} {w : World} {l : List Oper} (n : Nat) (hm : P.follows .mixedOrders = true) (hB : Region.lexTailB .any l.toArray n = true)
    (h : wpStill P l.toArray w.drew (fun a' => wpList P l.toArray Q (l.drop n) a' w.drew) (l.take n) a) : (Code.region id l.toArray true).wp P Q a w :=
  wp_region_still_tail n hm hB h
/-- A word turned to the right: p = 2^n, q = 2^(32-n). -/
def rot (p q x : Int) : Int := bits .or .u32 (x / p) (x * q % 4294967296)
def wv (V : List Int) : Array Value := (V.map (Value.int .u32)).toArray
theorem wv_get (V : List Int) (i : Nat) (h : i < V.length) : (wv V)[i]? = some (.int .u32 V[i]) := by simp [wv, h]
theorem wv_getE (V : List Int) (i : Nat) (h : i < (wv V).size) : (wv V)[i]'h = .int .u32 (V[i]'(by simpa [wv] using h)) := by simp [wv]
theorem wv_set (V : List Int) (i : Nat) (x : Int) : (wv V).setIfInBounds i (.int .u32 x) = wv (V.set i x) := by simp [wv]
theorem wv_size (V : List Int) : (wv V).size = V.length := by simp [wv]
theorem wv_one (V : List Int) : (wv V).all (·.oneCell') = true := by simp [wv, Value.oneCell']
/-- v[i], of a list of words. -/
def at_ (V : List Int) (i : Nat) : Int := V.getD i 0
theorem at_eq (V : List Int) (i : Nat) (h : i < V.length) : V[i]'h = at_ V i := by simp [at_, h]
def mx1 (V : List Int) (a b : Nat) (x : Int) : List Int := V.set a (((at_ V a + at_ V b) % 4294967296 + x) % 4294967296)
def mx2 (p q : Int) (V : List Int) (d a : Nat) : List Int := V.set d (rot p q (bits .xor .u32 (at_ V d) (at_ V a)))
def mx3 (V : List Int) (c d : Nat) : List Int := V.set c ((at_ V c + at_ V d) % 4294967296)
/-- The mixing of the document. -/
def mixL (V : List Int) (a b c d : Nat) (x y : Int) : List Int :=
  mx2 128 33554432 (mx3 (mx2 256 16777216 (mx1 (mx2 4096 1048576 (mx3 (mx2 65536 65536 (mx1 V a b x) d a) c d) b c) a b y) d a) c d) b c
theorem mx1_len (V : List Int) (a b : Nat) (x : Int) (h : V.length = 16) : (mx1 V a b x).length = 16 := by simp [mx1, h]
theorem mx2_len (p q : Int) (V : List Int) (d a : Nat) (h : V.length = 16) : (mx2 p q V d a).length = 16 := by simp [mx2, h]
theorem mx3_len (V : List Int) (c d : Nat) (h : V.length = 16) : (mx3 V c d).length = 16 := by simp [mx3, h]
theorem mixL_len (V : List Int) (a b c d : Nat) (x y : Int) (h : V.length = 16) : (mixL V a b c d x y).length = 16 := by simp [mixL, mx1, mx2, mx3, h]
/-- Block g is a row of the words V. -/
def Row (w : World) (g : Nat) (t : TypeId) (V : List Int) : Prop := w.heap[g]? = some (.cells (wv V) t (0, 0))
theorem Row.lt {w : World} {g : Nat} {t : TypeId} {V : List Int} (h : Row w g t V) : g < w.heap.size := by
  rcases Nat.lt_or_ge g w.heap.size with h' | h'
  · exact h'
  · simp [Row, Array.getElem?_eq_none h'] at h
theorem Row.cell {w : World} {g : Nat} {t : TypeId} {V : List Int} (h : Row w g t V) (i : Nat) (hi : i < V.length) : w.cell? ⟨g, i, none⟩ = some (.int .u32 V[i]) := by
  rw [cell_of_row w g i _ _ _ h, wv_get V i hi]
theorem Row.frozen {w : World} {g : Nat} {t : TypeId} {V : List Int} (h : Row w g t V) (i : Nat) : w.frozen? ⟨g, i, none⟩ = false := frozen_of_row w g i _ _ h
theorem Row.set {w : World} {g : Nat} {t : TypeId} {V : List Int} (h : Row w g t V) (i : Nat) (x : Int) : Row (w.setCell ⟨g, i, none⟩ (.int .u32 x)) g t (V.set i x) := by
  have := heap_setCell_same w g i _ _ (.int .u32 x) h
  unfold Row
  rw [this, wv_set]
theorem Row.other {w : World} {g : Nat} {t : TypeId} {V : List Int} (h : Row w g t V) (g' i : Nat) (x : Value) (hne : g ≠ g') : Row (w.setCell ⟨g', i, none⟩ x) g t V := by
  unfold Row
  rw [heap_setCell_other w ⟨g', i, none⟩ g x hne]; exact h
theorem Row.drew {w : World} {g : Nat} {t : TypeId} {V : List Int} (h : Row w g t V) : Row w.drew g t V := h
theorem Row.below {w w' : World} {g : Nat} {t : TypeId} {V : List Int} (h : Row w g t V) (hb : Below w.heap.size w w') : Row w' g t V := (hb.block g h.lt).trans h
theorem Row.alloc {w : World} {g : Nat} {t : TypeId} {V : List Int} (h : Row w g t V) (o : Obj) : Row (w.alloc o) g t V := (heap_alloc_old w o h.lt).trans h
theorem Row.new (w : World) (V : List Int) (t : TypeId) : Row (w.alloc (.cells (wv V) t)) w.heap.size t V := heap_alloc_new w _
theorem Row.setRow {w : World} {g : Nat} {t : TypeId} {V : List Int} (h : Row w g t V) (V' : List Int) : Row (w.setRow g (wv V')) g t V' := setRow_heap _ _ _ _ _ _ h
theorem Row.setRow_other {w : World} {g : Nat} {t : TypeId} {V : List Int} (h : Row w g t V) (g' : Nat) (cs : Array Value) (hne : g ≠ g') : Row (w.setRow g' cs) g t V := (_root_.Go.setRow_other w g' g cs hne).trans h
theorem wrap_u32_byte (b : UInt8) : IntKind.u32.wrap (b.toNat : Int) = b.toNat := by
  have := b.toNat_lt
  rw [IntKind.wrap_u32']; omega
theorem ret_int {k : IntKind} {a b : Int} (h : a = b) : Ending.returned (.int k a) = .returned (.int k b) := by rw [h]
def firstL : List Int := [1779033703, 3144134277, 1013904242, 2773480762, 1359893119, 2600822924, 528734635, 1541459225]
/-- The orders of the rounds. -/
def sig : List (List Nat) := [[0,1,2,3,4,5,6,7,8,9,10,11,12,13,14,15],[14,10,4,8,9,15,13,6,1,12,0,2,11,7,5,3],[11,8,12,0,5,2,15,13,10,14,3,6,7,1,9,4],[7,9,3,1,13,12,11,14,2,6,5,10,4,0,15,8],[9,0,5,7,2,4,10,15,14,1,11,12,6,8,3,13],[2,12,6,10,0,11,8,3,4,13,7,5,15,14,1,9],[12,5,1,15,14,13,4,10,0,7,6,3,9,2,8,11],[13,11,7,14,12,1,3,9,5,0,15,4,8,6,2,10],[6,15,14,9,11,3,0,8,12,2,13,7,1,4,10,5],[10,2,8,4,7,6,1,5,15,11,9,14,3,12,13,0]]
def sg (r i : Nat) : Nat := (sig.getD r []).getD i 0
/-- The figure of a number below 16. -/
def fig (n : Nat) : UInt8 := if n < 10 then UInt8.ofNat (48 + n) else UInt8.ofNat (87 + n)
def ordL (r : Nat) : List UInt8 := (sig.getD r []).map fig
end Go.Proofs.Ytchneiefjjcccaa
