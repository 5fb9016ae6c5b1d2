/-
  Words of 32 bits in lists and in rows of memory; the mixing of BLAKE2s; a region that draws and writes at its end: of no program.
  More on words of 32 bits: turning, exclusive or, half of a mixing: of no program.
  A region that draws its order, whose first operations only read, and whose later ones wait for them: the first ones in the text's order, then whatever order is left: of no program.
  Structs in a block of their own, read, stored and kept; short words for regions that draw: of no program.
  A region that draws its order, some of whose operations read what nothing ahead of operation d changes (C): these first; then what is left, C being kept: of no program. And such a region in a round of a range over a function.
  Operations taken out of a region that draws its order, with one closed fact each: of no program.
  A region that draws its order and only reads, but for calls that leave what was there as it was: walked once, by the library's words for quiet regions. Of no program.
-/
import Derived.Test.YtngllioidfffdaaGB
import Derived.BigRegion
import Derived.BigQuiet
import Derived.StillTailTactics
import Derived.Laws.Rows
import Derived.Laws.Tables
import Derived.Laws.CopyOwn
import Derived.StillTail
import Derived.Orders
import Derived.RangeFuncCalls
import Derived.OrdersIn
import Derived.TacticsIn
import Derived.Deep.QuietTactic
import Derived.Below
namespace Go.Proofs.Ytngllioidfffdaa
set_option maxRecDepth 100000
open Go.RowKit
/-- A region that draws its order, reads, and writes at its end alone: the world behind the draw under its own name. -/
theorem region_tail {P : Program} {id : Nat} {Q : Exit → Act → World → Prop} {a : Act} {w : World} {l : List Oper} (n : Nat) (hm : P.follows .mixedOrders = true) (hB : Region.lexTailB .any l.toArray n = true)
    (h : wpStill P l.toArray w.drew (fun a' => wpList P l.toArray Q (l.drop n) a' w.drew) (l.take n) a) : (Code.region id l.toArray true).wp P Q a w :=
  wp_region_still_tail n hm hB h
/-- A word turned to the right: p = 2^n, q = 2^(32-n). -/
def rot (p q x : Int) : Int := bits .or .u32 (x / p) (x * q % 4294967296)
def wv (V : List Int) : Array Value := (V.map (Value.int .u32)).toArray
theorem wv_get (V : List Int) (i : Nat) (h : i < V.length) : (wv V)[i]? = some (.int .u32 V[i]) := by simp [wv, h]
theorem wv_getE (V : List Int) (i : Nat) (h : i < (wv V).size) : (wv V)[i]'h = .int .u32 (V[i]'(by simpa [wv] using h)) := by simp [wv]
theorem wv_set (V : List Int) (i : Nat) (x : Int) : (wv V).setIfInBounds i (.int .u32 x) = wv (V.set i x) := by simp [wv]
theorem wv_size (V : List Int) : (wv V).size = V.length := by simp [wv]
theorem wv_one (V : List Int) : (wv V).all (·.oneCell') = true := by simp [wv, Value.oneCell']
/-- v[i], of a list of words. -/
def at_ (V : List Int) (i : Nat) : Int := V.getD i 0
theorem at_eq (V : List Int) (i : Nat) (h : i < V.length) : V[i]'h = at_ V i := by simp [at_, h]
def mx1 (V : List Int) (a b : Nat) (x : Int) : List Int := V.set a (((at_ V a + at_ V b) % 4294967296 + x) % 4294967296)
def mx2 (p q : Int) (V : List Int) (d a : Nat) : List Int := V.set d (rot p q (bits .xor .u32 (at_ V d) (at_ V a)))
def mx3 (V : List Int) (c d : Nat) : List Int := V.set c ((at_ V c + at_ V d) % 4294967296)
/-- The mixing of the document. -/
def mixL (V : List Int) (a b c d : Nat) (x y : Int) : List Int :=
  mx2 128 33554432 (mx3 (mx2 256 16777216 (mx1 (mx2 4096 1048576 (mx3 (mx2 65536 65536 (mx1 V a b x) d a) c d) b c) a b y) d a) c d) b c
theorem mx1_len (V : List Int) (a b : Nat) (x : Int) (h : V.length = 16) : (mx1 V a b x).length = 16 := by simp [mx1, h]
theorem mx2_len (p q : Int) (V : List Int) (d a : Nat) (h : V.length = 16) : (mx2 p q V d a).length = 16 := by simp [mx2, h]
theorem mx3_len (V : List Int) (c d : Nat) (h : V.length = 16) : (mx3 V c d).length = 16 := by simp [mx3, h]
theorem mixL_len (V : List Int) (a b c d : Nat) (x y : Int) (h : V.length = 16) : (mixL V a b c d x y).length = 16 := by simp [mixL, mx1, mx2, mx3, h]
/-- Block g is a row of the words V. -/
def Row (w : World) (g : Nat) (t : TypeId) (V : List Int) : Prop := w.heap[g]? = some (.cells (wv V) t (0, 0))
theorem Row.lt {w : World} {g : Nat} {t : TypeId} {V : List Int} (h : Row w g t V) : g < w.heap.size := by
  rcases Nat.lt_or_ge g w.heap.size with h' | h'
  · exact h'
  · simp [Row, Array.getElem?_eq_none h'] at h
theorem Row.cell {w : World} {g : Nat} {t : TypeId} {V : List Int} (h : Row w g t V) (i : Nat) (hi : i < V.length) : w.cell? ⟨g, i, none⟩ = some (.int .u32 V[i]) := by
  rw [cell_of_row w g i _ _ _ h, wv_get V i hi]
theorem Row.frozen {w : World} {g : Nat} {t : TypeId} {V : List Int} (h : Row w g t V) (i : Nat) : w.frozen? ⟨g, i, none⟩ = false := frozen_of_row w g i _ _ h
theorem Row.set {w : World} {g : Nat} {t : TypeId} {V : List Int} (h : Row w g t V) (i : Nat) (x : Int) : Row (w.setCell ⟨g, i, none⟩ (.int .u32 x)) g t (V.set i x) := by
  have := heap_setCell_same w g i _ _ (.int .u32 x) h
  unfold Row
  rw [this, wv_set]
theorem Row.other {w : World} {g : Nat} {t : TypeId} {V : List Int} (h : Row w g t V) (g' i : Nat) (x : Value) (hne : g ≠ g') : Row (w.setCell ⟨g', i, none⟩ x) g t V := by
  unfold Row
  rw [heap_setCell_other w ⟨g', i, none⟩ g x hne]; exact h
theorem Row.drew {w : World} {g : Nat} {t : TypeId} {V : List Int} (h : Row w g t V) : Row w.drew g t V := h
theorem Row.below {w w' : World} {g : Nat} {t : TypeId} {V : List Int} (h : Row w g t V) (hb : Below w.heap.size w w') : Row w' g t V := (hb.block g h.lt).trans h
theorem Row.alloc {w : World} {g : Nat} {t : TypeId} {V : List Int} (h : Row w g t V) (o : Obj) : Row (w.alloc o) g t V := (heap_alloc_old w o h.lt).trans h
theorem Row.new (w : World) (V : List Int) (t : TypeId) : Row (w.alloc (.cells (wv V) t)) w.heap.size t V := heap_alloc_new w _
theorem Row.setRow {w : World} {g : Nat} {t : TypeId} {V : List Int} (h : Row w g t V) (V' : List Int) : Row (w.setRow g (wv V')) g t V' := setRow_heap _ _ _ _ _ _ h
theorem Row.setRow_other {w : World} {g : Nat} {t : TypeId} {V : List Int} (h : Row w g t V) (g' : Nat) (cs : Array Value) (hne : g ≠ g') : Row (w.setRow g' cs) g t V := (_root_.Go.setRow_other w g' g cs hne).trans h
theorem wrap_u32_byte (b : UInt8) : IntKind.u32.wrap (b.toNat : Int) = b.toNat := by
  have := b.toNat_lt
  rw [IntKind.wrap_u32']; omega
theorem ret_int {k : IntKind} {a b : Int} (h : a = b) : Ending.returned (.int k a) = .returned (.int k b) := by rw [h]
def firstL : List Int := [1779033703, 3144134277, 1013904242, 2773480762, 1359893119, 2600822924, 528734635, 1541459225]
/-- The orders of the rounds. -/
def sig : List (List Nat) := [[0,1,2,3,4,5,6,7,8,9,10,11,12,13,14,15],[14,10,4,8,9,15,13,6,1,12,0,2,11,7,5,3],[11,8,12,0,5,2,15,13,10,14,3,6,7,1,9,4],[7,9,3,1,13,12,11,14,2,6,5,10,4,0,15,8],[9,0,5,7,2,4,10,15,14,1,11,12,6,8,3,13],[2,12,6,10,0,11,8,3,4,13,7,5,15,14,1,9],[12,5,1,15,14,13,4,10,0,7,6,3,9,2,8,11],[13,11,7,14,12,1,3,9,5,0,15,4,8,6,2,10],[6,15,14,9,11,3,0,8,12,2,13,7,1,4,10,5],[10,2,8,4,7,6,1,5,15,11,9,14,3,12,13,0]]
def sg (r i : Nat) : Nat := (sig.getD r []).getD i 0
/-- The figure of a number below 16. -/
def fig (n : Nat) : UInt8 := if n < 10 then UInt8.ofNat (48 + n) else UInt8.ofNat (87 + n)
def ordL (r : Nat) : List UInt8 := (sig.getD r []).map fig
end Go.Proofs.Ytngllioidfffdaa
namespace Go.Proofs.Ytngllioidfffdaa
set_option maxRecDepth 100000
open Go.RowKit
set_option linter.unusedVariables false
theorem or_comm32 (a b : Int) : bits .or .u32 a b = bits .or .u32 b a := by
  show IntKind.u32.wrap ((BitVec.ofInt 32 a ||| BitVec.ofInt 32 b).toNat : Int) = IntKind.u32.wrap ((BitVec.ofInt 32 b ||| BitVec.ofInt 32 a).toNat : Int)
  rw [BitVec.or_comm]
theorem ofInt_wrap32 (x : BitVec 32) : BitVec.ofInt 32 (IntKind.u32.wrap (x.toNat : Int)) = x := by
  have h := x.isLt
  have e : IntKind.u32.wrap (x.toNat : Int) = (x.toNat : Int) := by rw [IntKind.wrap_u32']; omega
  rw [e, BitVec.ofInt_natCast, BitVec.ofNat_toNat]
  exact BitVec.setWidth_eq x
theorem xor_assoc32 (a b c : Int) : bits .xor .u32 (bits .xor .u32 a b) c = bits .xor .u32 a (bits .xor .u32 b c) := by
  show IntKind.u32.wrap ((BitVec.ofInt 32 (IntKind.u32.wrap ((BitVec.ofInt 32 a ^^^ BitVec.ofInt 32 b).toNat : Int)) ^^^ BitVec.ofInt 32 c).toNat : Int) = IntKind.u32.wrap ((BitVec.ofInt 32 a ^^^ BitVec.ofInt 32 (IntKind.u32.wrap ((BitVec.ofInt 32 b ^^^ BitVec.ofInt 32 c).toNat : Int))).toNat : Int)
  rw [ofInt_wrap32, ofInt_wrap32, BitVec.xor_assoc]
theorem xor_comm32 (a b : Int) : bits .xor .u32 a b = bits .xor .u32 b a := by
  show IntKind.u32.wrap ((BitVec.ofInt 32 a ^^^ BitVec.ofInt 32 b).toNat : Int) = IntKind.u32.wrap ((BitVec.ofInt 32 b ^^^ BitVec.ofInt 32 a).toNat : Int)
  rw [BitVec.xor_comm]
theorem add3 (a b x : Int) : (a + (b + x)) % 4294967296 = ((a + b) % 4294967296 + x) % 4294967296 := by omega
theorem results_tmp4 {fn : Func} {t u v x : Tmp} (h : fn.results = #[.tmp t, .tmp u, .tmp v, .tmp x]) (tmps : Array Value) (P : Program) (w : World) :
    (results fn tmps).run P w = .ok (.tuple #[tmps.getD t undef, tmps.getD u undef, tmps.getD v undef, tmps.getD x undef]) w := by
  simp [results, h]
theorem results_row_tmp {P : Program} {fn : Func} {p q : Tmp} {ty : TypeId} (h : fn.results = #[.cell p ty, .tmp q]) (tmps : Array Value) (w : World) (g : Nat) (t : TypeId) (cs : Array Value) (fr : Nat × Nat) (d : TypeDesc)
    (hp : tmps.getD p undef = .pointer (some ⟨g, 0, none⟩)) (hg : w.heap[g]? = some (.cells cs t fr))
    (hu : P.underlying ty = some d) (hd : (match d with | .struct _ | .array _ _ => true | _ => false) = true) (hi : (P.info? ty).map (·.size) = some cs.size) :
    (results fn tmps).run P w = .ok (.tuple #[.agg cs, tmps.getD q undef]) w := by
  have hp' : tmps[p]?.getD undef = .pointer (some ⟨g, 0, none⟩) := by simpa using hp
  simp [results, h, hp', asAddr, run_loadVar_row w g t ty cs fr d hg hu hd hi]
/-- Half of a mixing: by one word, with its two turns. -/
def half (p q r s : Int) (V : List Int) (a b c d : Nat) (x : Int) : List Int := mx2 r s (mx3 (mx2 p q (mx1 V a b x) d a) c d) b c
theorem mixL_half (V : List Int) (a b c d : Nat) (x y : Int) : mixL V a b c d x y = half 256 16777216 128 33554432 (half 65536 65536 4096 1048576 V a b c d x) a b c d y := rfl
theorem half_len (p q r s : Int) (V : List Int) (a b c d : Nat) (x : Int) (h : V.length = 16) : (half p q r s V a b c d x).length = 16 := by simp [half, mx1, mx2, mx3, h]
/-- The four words behind half of a mixing. -/
def hA (a b x : Int) : Int := ((a + b) % 4294967296 + x) % 4294967296
def hD (p q a b d x : Int) : Int := rot p q (bits .xor .u32 d (hA a b x))
def hC (p q a b c d x : Int) : Int := (c + hD p q a b d x) % 4294967296
def hB (p q r s a b c d x : Int) : Int := rot r s (bits .xor .u32 b (hC p q a b c d x))
theorem at_set_same (V : List Int) (i : Nat) (x : Int) (h : i < V.length) : at_ (V.set i x) i = x := by simp [at_, h]
theorem at_set_other (V : List Int) (i j : Nat) (x : Int) (h : i ≠ j) : at_ (V.set i x) j = at_ V j := by simp [at_, h]
theorem half_eq (p q r s : Int) (V : List Int) (a b c d : Nat) (x : Int) (hV : V.length = 16) (ha : a < 16) (hb : b < 16) (hc : c < 16) (hd : d < 16) (hab : a ≠ b) (hac : a ≠ c) (had : a ≠ d) (hbc : b ≠ c) (hbd : b ≠ d) (hcd : c ≠ d) :
    half p q r s V a b c d x = (((V.set a (hA (at_ V a) (at_ V b) x)).set b (hB p q r s (at_ V a) (at_ V b) (at_ V c) (at_ V d) x)).set c (hC p q (at_ V a) (at_ V b) (at_ V c) (at_ V d) x)).set d (hD p q (at_ V a) (at_ V b) (at_ V d) x) := by
  unfold half
  have e1 : mx1 V a b x = V.set a (hA (at_ V a) (at_ V b) x) := rfl
  rw [e1]
  have e2 : mx2 p q (V.set a (hA (at_ V a) (at_ V b) x)) d a = (V.set a (hA (at_ V a) (at_ V b) x)).set d (hD p q (at_ V a) (at_ V b) (at_ V d) x) := by
    unfold mx2
    rw [at_set_other _ _ _ _ had, at_set_same _ _ _ (by omega)]; rfl
  rw [e2]
  have e3 : mx3 ((V.set a (hA (at_ V a) (at_ V b) x)).set d (hD p q (at_ V a) (at_ V b) (at_ V d) x)) c d = ((V.set a (hA (at_ V a) (at_ V b) x)).set d (hD p q (at_ V a) (at_ V b) (at_ V d) x)).set c (hC p q (at_ V a) (at_ V b) (at_ V c) (at_ V d) x) := by
    unfold mx3
    rw [at_set_same _ _ _ (by simp; omega), at_set_other _ _ _ _ (Ne.symm hcd), at_set_other _ _ _ _ hac]; rfl
  rw [e3]
  unfold mx2
  rw [at_set_same _ _ _ (by simp; omega), at_set_other _ _ _ _ (Ne.symm hbc), at_set_other _ _ _ _ (Ne.symm hbd), at_set_other _ _ _ _ hab]
  rw [List.set_comm _ _ (Ne.symm hcd), List.set_comm _ _ (Ne.symm hbd), List.set_comm _ _ (Ne.symm hbc)]
  rfl
/-- Four words of one row written. -/
def put4 (w : World) (g a b c d : Nat) (xa xb xc xd : Int) : World := (((w.setCell ⟨g, a, none⟩ (.int .u32 xa)).setCell ⟨g, b, none⟩ (.int .u32 xb)).setCell ⟨g, c, none⟩ (.int .u32 xc)).setCell ⟨g, d, none⟩ (.int .u32 xd)
theorem put4_row {w : World} {g : Nat} {t : TypeId} {U : List Int} (h : Row w g t U) (a b c d : Nat) (xa xb xc xd : Int) : Row (put4 w g a b c d xa xb xc xd) g t ((((U.set a xa).set b xb).set c xc).set d xd) := (((h.set a xa).set b xb).set c xc).set d xd
theorem put4_other (w : World) (g a b c d : Nat) (xa xb xc xd : Int) (k : Nat) (hk : k ≠ g) : (put4 w g a b c d xa xb xc xd).heap[k]? = w.heap[k]? := by
  unfold put4
  rw [Below.heap_setCell _ _ _ _ (by simpa using hk), Below.heap_setCell _ _ _ _ (by simpa using hk), Below.heap_setCell _ _ _ _ (by simpa using hk), Below.heap_setCell _ _ _ _ (by simpa using hk)]
theorem put4_size (w : World) (g a b c d : Nat) (xa xb xc xd : Int) : (put4 w g a b c d xa xb xc xd).heap.size = w.heap.size := by simp [put4]
theorem put4_bel {B : Nat} {w0 w : World} (h : Below B w0 w) (g a b c d : Nat) (xa xb xc xd : Int) (hg : B ≤ g) : Below B w0 (put4 w g a b c d xa xb xc xd) :=
  (((h.setCell (p := ⟨g, a, none⟩) hg _).setCell (p := ⟨g, b, none⟩) hg _).setCell (p := ⟨g, c, none⟩) hg _).setCell (p := ⟨g, d, none⟩) hg _
end Go.Proofs.Ytngllioidfffdaa
namespace Go.Proofs.Ytngllioidfffdaa
set_option maxRecDepth 100000
open Go.RowKit
set_option linter.unusedVariables false
section
variable {P : Program} {ops : Array Oper} {md : Region.Mode} {w : World}
/-- Each from m to n is waited for by a later one of these, or by all that are behind. -/
def waitB (md : Region.Mode) (ops : Array Oper) (m n : Nat) : Bool :=
  (List.range n).all fun i => decide (i < m) || ((List.range n).any fun j => decide (i < j) && Region.waitsFor md ops j i) || ((List.range ops.size).all fun t => decide (t < n) || Region.waitsFor md ops t i)
theorem behind_waits {m n : Nat} {listed : Array Bool} (hs : waitB md ops m n = true) (inv : HeadInv md ops n listed) :
    ∀ (d i : Nat), n - i = d → m ≤ i → i < n → listed.getD i true = false → ∀ t, n ≤ t → t ∉ Region.ready md ops listed := by
  intro d
  induction d using Nat.strongRecOn with
  | _ d ih =>
    intro i hd hmi hi hun t ht hr
    obtain ⟨_, ot, hot, hall⟩ := mem_ready.1 hr
    have htlt : t < ops.size := (Array.getElem?_eq_some_iff.1 hot).1
    have h1 := List.all_eq_true.1 hs i (List.mem_range.2 hi)
    rcases (by simpa only [Bool.or_eq_true] using h1 : (_ ∨ _) ∨ _) with (h2 | h2) | h2
    · have := of_decide_eq_true h2; omega
    · obtain ⟨j, hj, hj2⟩ := List.any_eq_true.1 h2
      have hjn := List.mem_range.1 hj
      simp only [Bool.and_eq_true, decide_eq_true_eq] at hj2
      obtain ⟨oj, hoj, e, he, hb, hon⟩ := Region.waitsFor_spec hj2.2
      cases hl : listed.getD j false with
      | true =>
        have h3 := inv.closed j oj hoj hl e he hb
        rw [hon, getD_both hun] at h3
        cases h3
      | false => exact ih (n - j) (by omega) j rfl (by omega) hjn (getD_in (by rw [inv.size]; omega) hl) t ht hr
    · have h3 := List.all_eq_true.1 h2 t (List.mem_range.2 htlt)
      simp only [Bool.or_eq_true, decide_eq_true_eq] at h3
      rcases h3 with h3 | h3
      · omega
      · obtain ⟨o', ho', e, he, hb, hon⟩ := Region.waitsFor_spec h3
        obtain rfl : o' = ot := Option.some.inj (ho'.symm.trans hot)
        have h4 := hall e he hb
        rw [hon, getD_both hun] at h4
        cases h4
theorem still_first {m n i : Nat} {oi : Oper} {v : Value} {L : Array Bool → Act → Prop} (hi : ops[i]? = some oi) (hsel : ∀ (j : Nat) (o : Oper) cs b, ops[j]? = some o → o.op ≠ .select cs b)
    (hs : waitB md ops m n = true) (hmi : m ≤ i) (hin : i < n) (hdone : ∀ listed a, L listed a → ∀ j ∈ Region.ready md ops listed, n ≤ j) :
    ∀ (f : Nat) (listed : Array Bool) (a : Act), HeadInv md ops n listed →
      (∀ j oj, ops[j]? = some oj → j ≠ i → listed.getD j true = false → (∀ e ∈ oj.after, Region.binds md e = true → e.on ≠ i) → oi.apart ops oj = true) →
      i ∈ Region.ready md ops listed → YieldsAt P ops w oi v a →
      wpAnyL P md ops w n L f (listed.setIfInBounds i true) (a.put oi.dst v) → wpAnyL P md ops w n L (f + 1) listed a := by
  intro f
  induction f with
  | zero =>
    intro listed a inv _ hr hy H
    have hun := (mem_ready.1 hr).1
    refine ⟨fun h => (by rw [h] at hr; cases hr), fun j hj => ?_⟩
    have hjn : j < n := Nat.lt_of_not_le fun h => behind_waits hs inv _ i rfl hmi hin hun j h hj
    refine ⟨hjn, ?_⟩
    by_cases hji : j = i
    · subst hji; exact hy.stOp hi H
    · have := hdone _ _ H j (ready_mono hj hji)
      omega
  | succ f ih =>
    intro listed a inv hfree hr hy H
    have hun := (mem_ready.1 hr).1
    refine ⟨fun h => (by rw [h] at hr; cases hr), fun j hj => ?_⟩
    have hjn : j < n := Nat.lt_of_not_le fun h => behind_waits hs inv _ i rfl hmi hin hun j h hj
    refine ⟨hjn, ?_⟩
    by_cases hji : j = i
    · subst hji; exact hy.stOp hi H
    · have h1 := (H.2 j (ready_mono hj hji)).2
      obtain ⟨hjun, oj, hoj, hall⟩ := mem_ready.1 hj
      have hnot : ∀ e ∈ oj.after, Region.binds md e = true → e.on ≠ i := fun e he hb heq => by
        have h1 := hall e he hb
        rw [heq, getD_both hun] at h1
        cases h1
      have h2 := stOp_put hoj (hfree j oj hoj hji hjun hnot) (fun cs b => hsel i oi cs b hi) (fun cs b => hsel j oj cs b hoj) hy h1
      refine stOp_mono (fun a' h3 => ih (listed.setIfInBounds j true) a' (inv.set hj hjn) (fun k ok hk hki hku hno => ?_) (ready_mono hr (Ne.symm hji)) h3.1 ?_) h2
      · refine hfree k ok hk hki ?_ hno
        by_cases hjk : j = k
        · subst hjk; exact hjun
        · rw [getD_set_ne true hjk] at hku; exact hku
      · rw [Array.setIfInBounds_comm _ _ hji]
        exact h3.2
/-- The first f from k on, one behind the other; then only later ones may come. -/
def lexH (md : Region.Mode) (ops : Array Oper) : Nat → Nat → Array Bool → Bool
  | 0, k, listed => (Region.ready md ops listed).all fun j => decide (k ≤ j)
  | f + 1, k, listed => (Region.ready md ops listed).contains k && Region.free md ops listed k && lexH md ops f (k + 1) (listed.setIfInBounds k true)
def setN : Nat → Nat → Array Bool → Array Bool
  | 0, _, listed => listed
  | f + 1, k, listed => setN f (k + 1) (listed.setIfInBounds k true)
theorem still_lex {m n : Nat} {Lq : Act → Prop} (hsel : Region.noSelect ops = true) (hs : waitB md ops m n = true) (E : Array Bool) (hE : ∀ j ∈ Region.ready md ops E, n ≤ j) :
    ∀ (l : List Oper) (k : Nat) (listed : Array Bool) (a : Act), m ≤ k → (∀ j, j < l.length → l[j]? = ops[k + j]?) → k + l.length = n → HeadInv md ops n listed →
    lexH md ops l.length k listed = true → setN l.length k listed = E → wpStill P ops w Lq l a →
    wpAnyL P md ops w n (fun listed' a' => listed' = E ∧ Lq a') l.length listed a
  | [], k, listed, a, _, _, hk, _, hB, he, h => ⟨he, h⟩
  | o :: l, k, listed, a, hmk, hl, hk, inv, hB, he, h => by
    have h0 : ops[k]? = some o := by simpa using (hl 0 (by simp)).symm
    simp only [List.length_cons, lexH, Bool.and_eq_true] at hB
    obtain ⟨⟨hr, hf⟩, hB'⟩ := hB
    have hkn : k < n := by simp only [List.length_cons] at hk; omega
    have hr' : k ∈ Region.ready md ops listed := by simpa using hr
    have hst : stOp P ops w k (wpStill P ops w Lq l) a := by unfold stOp; simp only [h0]; exact h
    obtain ⟨v, hy, hK⟩ := yieldsAt_of_stOp h0 hst
    exact still_first h0 (Region.noSelect_spec hsel) hs hmk hkn (fun listed' a' hL => by rw [hL.1]; exact hE) l.length listed a inv (Region.free_spec h0 hf) hr' hy
      (still_lex hsel hs E hE l (k + 1) _ _ (by omega) (fun j hj => by have := hl (j + 1) (by simp; omega); simpa [Nat.add_assoc, Nat.add_comm 1 j] using this) (by simp only [List.length_cons] at hk; omega) (inv.set hr' hkn) hB' he hK)
def invB (md : Region.Mode) (ops : Array Oper) (n : Nat) (listed : Array Bool) : Bool :=
  decide (listed.size = ops.size) && ((List.range ops.size).all fun j => (!listed.getD j false) || (match ops[j]? with | some oj => oj.after.all fun e => (!Region.binds md e) || listed.getD e.on false | none => true)) && ((List.range ops.size).all fun t => decide (t < n) || !listed.getD t true)
theorem invB_spec {n : Nat} {listed : Array Bool} (h : invB md ops n listed = true) : HeadInv md ops n listed := by
  simp only [invB, Bool.and_eq_true, decide_eq_true_eq] at h
  obtain ⟨⟨h1, h2⟩, h3⟩ := h
  refine ⟨h1, fun j oj hj hl e he hb => ?_, fun t ht ht' => ?_⟩
  · have hjl : j < ops.size := (Array.getElem?_eq_some_iff.1 hj).1
    have h4 := List.all_eq_true.1 h2 j (List.mem_range.2 hjl)
    rw [hl, hj] at h4
    simp only [Bool.not_true, Bool.false_or] at h4
    have h5 := Array.all_eq_true'.1 h4 e he
    rw [hb] at h5
    simpa using h5
  · have h4 := List.all_eq_true.1 h3 t (List.mem_range.2 ht')
    simp only [Bool.or_eq_true, decide_eq_true_eq, Bool.not_eq_true'] at h4
    rcases h4 with h4 | h4
    · omega
    · exact h4
def headB (md : Region.Mode) (ops : Array Oper) (m n : Nat) (listed : Array Bool) : Bool :=
  Region.noSelect ops && decide (m ≤ n) && decide (n < ops.size) && waitB md ops m n && lexH md ops (n - m) m listed && invB md ops n listed && (Region.ready md ops (setN (n - m) m listed)).all fun j => decide (n ≤ j)
/-- Those from m to n in the text's order, in the world as it is; then what is left, in whatever order. -/
theorem any_head {Q : Exit → Act → World → Prop} {a : Act} {w : World} {l : List Oper} {listed : Array Bool} (m n g : Nat) (hB : headB .any l.toArray m n listed = true)
    (h : wpStill P l.toArray w (fun a' => wpAny P .any l.toArray Q g (setN (n - m) m listed) a' w) ((l.drop m).take (n - m)) a) : wpAny P .any l.toArray Q (n - m + g) listed a w := by
  simp only [headB, Bool.and_eq_true, decide_eq_true_eq] at hB
  obtain ⟨⟨⟨⟨⟨⟨hsel, hmn⟩, hn⟩, hs⟩, hlex⟩, hinv⟩, hE⟩ := hB
  have hn' : n < l.length := by simpa using hn
  have htl : ((l.drop m).take (n - m)).length = n - m := by simp; omega
  have H := still_lex (md := .any) hsel hs (setN (n - m) m listed) (fun j hj => by simpa using List.all_eq_true.1 hE j hj) ((l.drop m).take (n - m)) m _ a (Nat.le_refl _) (fun j hj => by
    have hj' : j < n - m := by rw [htl] at hj; exact hj
    simp [hj', List.getElem?_drop]) (by omega) (invB_spec hinv) (by rw [htl]; exact hlex) (by rw [htl]) h
  have := wpAny_of_head (Q' := Q) (g := g) (fun listed a' hL => by rw [hL.1]; exact hL.2) _ _ _ H
  rw [htl] at this
  exact this
/-- What is left has one order. -/
def seqI (md : Region.Mode) (ops : Array Oper) : List Nat → Array Bool → Bool
  | [], listed => (Region.ready md ops listed).isEmpty
  | i :: is, listed => decide (Region.ready md ops listed = [i]) && seqI md ops is (listed.setIfInBounds i true)
theorem any_seqI {Q : Exit → Act → World → Prop} : ∀ (is : List Nat) (l : List Oper) (listed : Array Bool) (a : Act) (w : World), l.map some = is.map (fun i => ops[i]?) → seqI md ops is listed = true → wpList P ops Q l a w → wpAny P md ops Q is.length listed a w
  | [], l, listed, a, w, hl, hB, h => by
    obtain rfl : l = [] := by cases l <;> simp_all
    exact ⟨by simpa [seqI] using hB, h⟩
  | i :: is, l, listed, a, w, hl, hB, h => by
    match l, hl, h with
    | o :: l, hl, h =>
      simp only [List.map_cons, List.cons.injEq] at hl
      simp only [seqI, Bool.and_eq_true, decide_eq_true_eq] at hB
      refine ⟨fun h1 => (by rw [hB.1] at h1; cases h1), fun j hj => ?_⟩
      rw [hB.1] at hj
      obtain rfl : j = i := by simpa using hj
      have hw : wpOp P ops Q j (wpList P ops Q l) a w := by unfold wpOp; rw [← hl.1]; exact h
      exact wpOp_mono (fun a' w' h' => any_seqI is l _ a' w' hl.2 hB.2 h') hw
end
end Go.Proofs.Ytngllioidfffdaa
namespace Go.Proofs.Ytngllioidfffdaa
set_option maxRecDepth 100000
open Go.RowKit
set_option linter.unusedVariables false
/-- Block g is a struct's. -/
def SBox (w : World) (g : Nat) (t : TypeId) (cs : Array Value) : Prop := w.heap[g]? = some (.cells cs t (0, 0))
theorem SBox.lt {w : World} {g : Nat} {t : TypeId} {cs : Array Value} (h : SBox w g t cs) : g < w.heap.size := (Array.getElem?_eq_some_iff.1 h).1
theorem SBox.cell {w : World} {g : Nat} {t : TypeId} {cs : Array Value} (h : SBox w g t cs) (j : Nat) (u : Value) (hu : cs[j]? = some u) : w.cell? ⟨g, j, none⟩ = some u := by
  unfold SBox at h
  simp [World.cell?, h, hu]
theorem SBox.frozen {w : World} {g : Nat} {t : TypeId} {cs : Array Value} (h : SBox w g t cs) (j : Nat) : w.frozen? ⟨g, j, none⟩ = false := by
  unfold SBox at h
  simp [World.frozen?, h]
theorem SBox.set {w : World} {g : Nat} {t : TypeId} {cs : Array Value} (h : SBox w g t cs) (j : Nat) (v : Value) : SBox (w.setCell ⟨g, j, none⟩ v) g t (cs.setIfInBounds j v) := by
  unfold SBox at h ⊢
  simp [World.setCell, Array.getElem?_modify, h]
theorem SBox.other {w : World} {g : Nat} {t : TypeId} {cs : Array Value} (h : SBox w g t cs) (k j : Nat) (v : Value) (hne : k ≠ g) : SBox (w.setCell ⟨k, j, none⟩ v) g t cs := by
  unfold SBox at h ⊢
  simp [World.setCell, Array.getElem?_modify, h, hne]
theorem SBox.below {w w' : World} {g : Nat} {t : TypeId} {cs : Array Value} (h : SBox w g t cs) (b : Below w.heap.size w w') : SBox w' g t cs := (b.block g h.lt).trans h
theorem SBox.alloc {w : World} {g : Nat} {t : TypeId} {cs : Array Value} (h : SBox w g t cs) (o : Obj) : SBox (w.alloc o) g t cs := h.below ((Below.refl _ w).alloc (Nat.le_refl _) o)
theorem SBox.new (w : World) (t : TypeId) (cs : Array Value) : SBox (w.alloc (.cells cs t)) w.heap.size t cs := by
  show (w.heap.push (.cells cs t))[w.heap.size]? = _
  simp
theorem SBox.drew {w : World} {g : Nat} {t : TypeId} {cs : Array Value} (h : SBox w g t cs) : SBox w.drew g t cs := h
/-- All cells of a struct stored, one behind the other. -/
theorem SBox.put4 {w : World} {g : Nat} {t : TypeId} {p q r s : Value} (h : SBox w g t #[p, q, r, s]) (a b c d : Value) : SBox ((((w.setCell ⟨g, 0, none⟩ a).setCell ⟨g, 1, none⟩ b).setCell ⟨g, 2, none⟩ c).setCell ⟨g, 3, none⟩ d) g t #[a, b, c, d] :=
  (((h.set 0 a).set 1 b).set 2 c).set 3 d
theorem SBox.put4_other {w : World} {g k : Nat} {t : TypeId} {cs : Array Value} (h : SBox w g t cs) (hne : k ≠ g) (a b c d : Value) : SBox ((((w.setCell ⟨k, 0, none⟩ a).setCell ⟨k, 1, none⟩ b).setCell ⟨k, 2, none⟩ c).setCell ⟨k, 3, none⟩ d) g t cs :=
  (((h.other k 0 a hne).other k 1 b hne).other k 2 c hne).other k 3 d hne
theorem bel_put4 {B : Nat} {a w : World} (h : Below B a w) {g : Nat} (hg : B ≤ g) (p q r s : Value) : Below B a ((((w.setCell ⟨g, 0, none⟩ p).setCell ⟨g, 1, none⟩ q).setCell ⟨g, 2, none⟩ r).setCell ⟨g, 3, none⟩ s) :=
  (((h.setCell (p := ⟨g, 0, none⟩) hg p).setCell (p := ⟨g, 1, none⟩) hg q).setCell (p := ⟨g, 2, none⟩) hg r).setCell (p := ⟨g, 3, none⟩) hg s
theorem cell_bel {W W' : World} (b : Below W.heap.size W W') {a : Addr} {v : Value} (h : W.cell? a = some v) : W'.cell? a = some v := by
  have hlt : a.block < W.heap.size := by
    rcases Nat.lt_or_ge a.block W.heap.size with h' | h'
    · exact h'
    · simp [World.cell?, Array.getElem?_eq_none h'] at h
  rw [b.cell hlt]
  exact h
end Go.Proofs.Ytngllioidfffdaa
namespace Go.Proofs.Ytngllioidfffdaa
set_option maxRecDepth 100000
open Go.RowKit
set_option linter.unusedVariables false
section
variable {P : Program} {ops : Array Oper} {md : Region.Mode} {Q : Exit → Act → World → Prop}
def wpAnyC (C : World → Prop) (d : Nat) (P : Program) (md : Region.Mode) (ops : Array Oper) (Q : Exit → Act → World → Prop) : Nat → Array Bool → Act → World → Prop
  | 0, listed, a, w => wpAny P md ops Q 0 listed a w ∧ (listed.getD d false = false → C w)
  | f + 1, listed, a, w => (listed.getD d false = true ∧ wpAny P md ops Q (f + 1) listed a w) ∨
      (listed.getD d false = false ∧ C w ∧ (Region.ready md ops listed = [] → Q .normal a w) ∧ ∀ i ∈ Region.ready md ops listed, wpOp P ops Q i (wpAnyC C d P md ops Q f (listed.setIfInBounds i true)) a w)
theorem any_of_C {C : World → Prop} (d : Nat) : ∀ (f : Nat) (listed : Array Bool) (a : Act) (w : World), wpAnyC C d P md ops Q f listed a w → wpAny P md ops Q f listed a w
  | 0, _, _, _, h => h.1
  | f + 1, listed, a, w, h => by
    rcases h with h | ⟨_, _, h1, h2⟩
    · exact h.2
    · exact ⟨h1, fun i hi => wpOp_mono (fun a' w' h' => any_of_C d f _ a' w' h') (h2 i hi)⟩
/-- An operation that yields one value in whatever world keeps C. -/
def YieldsC (C : World → Prop) (P : Program) (ops : Array Oper) (o : Oper) (v : Value) (a : Act) : Prop :=
  (Region.wanted o (yielded ops a.tmps) = true ∧ ∀ w, C w → (execOp a.eval o).run P w = .ok (.value v) w) ∨ (Region.wanted o (yielded ops a.tmps) = false ∧ v = undef)
theorem YieldsC.op {C : World → Prop} {i : Nat} {o : Oper} {v : Value} {a : Act} (hi : ops[i]? = some o) (hy : YieldsC C P ops o v a) {K : Act → World → Prop} {w : World} (hC : C w) (h : K (a.put o.dst v) w) : wpOp P ops Q i K a w := by
  unfold wpOp
  simp only [hi]
  rcases hy with ⟨hw, hv⟩ | ⟨hw, rfl⟩
  · simp only [hw, if_true, Oper.wp, hv w hC, Oper.upon]; exact .inl h
  · simp only [hw, Bool.false_eq_true, if_false]; exact h
theorem YieldsC.same {C : World → Prop} {o : Oper} {v : Value} {a a' : Act} (hy : YieldsC C P ops o v a) (he : execOp a'.eval o = execOp a.eval o) (hw : Region.wanted o (yielded ops a'.tmps) = Region.wanted o (yielded ops a.tmps)) : YieldsC C P ops o v a' := by
  unfold YieldsC at *
  rw [he, hw]
  exact hy
theorem wpOp_putC {C : World → Prop} {j : Nat} {oi oj : Oper} {v : Value} (hj : ops[j]? = some oj) (hap : oi.apart ops oj = true)
    (hsi : ∀ cs b, oi.op ≠ .select cs b) (hsj : ∀ cs b, oj.op ≠ .select cs b)
    (hQ : ∀ c a w, Q (.panic c) (a.put oi.dst v) w → Q (.panic c) a w) {K : Act → World → Prop} {a : Act} {w : World}
    (hy : YieldsC C P ops oi v a) (h : wpOp P ops Q j K (a.put oi.dst v) w) :
    wpOp P ops Q j (fun a' w' => YieldsC C P ops oi v a' ∧ K (a'.put oi.dst v) w') a w := by
  obtain ⟨h1, h2, h3⟩ := Oper.apart_spec hap
  have keep : ∀ (a : Act), YieldsC C P ops oi v a → ∀ u, YieldsC C P ops oi v (a.put oj.dst u) := fun a hy u => hy.same (execOp_put oi hsi a oj.dst u h3) (wanted_put oi a oj.dst u h3)
  have keepD : ∀ d, YieldsC C P ops oi v { a with defers := d :: a.defers } := fun d => hy.same rfl rfl
  unfold wpOp at *
  simp only [hj] at *
  rw [wanted_put oj a oi.dst v h1] at h
  by_cases hw : Region.wanted oj (yielded ops a.tmps) = true
  · rw [if_pos hw] at h ⊢
    rcases h with h | ⟨hasks, hlets⟩
    case inr => exact .inr ⟨by unfold Oper.asks at *; rw [execOp_put oj hsj a oi.dst v h1] at hasks; exact hasks, hlets⟩
    refine .inl ?_
    unfold Oper.wp at *
    rw [execOp_put oj hsj a oi.dst v h1] at h
    generalize (execOp a.eval oj).run P w = r at *
    cases r with
    | ok n w' =>
      cases n <;> simp only [Oper.upon] at h ⊢
      case value u => exact ⟨keep a hy u, by rw [← Act.put_comm a v u h2]; exact h⟩
      case skip => exact ⟨keep a hy _, by rw [← Act.put_comm a v undef h2]; exact h⟩
      case defer d =>
        refine ⟨keep _ (keepD d) _, ?_⟩
        rw [← Act.put_comm _ v undef h2, ← Act.put_defers]
        exact h
      case enter f args =>
        refine Calls.mono h fun e w'' he => ?_
        cases e with
        | returned u => exact ⟨keep a hy u, by rw [← Act.put_comm a v u h2]; exact he⟩
        | panicked c => exact hQ _ _ _ he
        | outgrown => exact he
      case row row args => exact Rows.mono h fun u w'' he => ⟨keep a hy u, by rw [← Act.put_comm a v u h2]; exact he⟩
    | halt x w' =>
      cases x <;> simp only [Oper.upon] at h ⊢
      case panic u => exact hQ _ _ _ h
  · rw [if_neg hw] at h ⊢
    exact ⟨keep a hy _, by rw [← Act.put_comm a v undef h2]; exact h⟩
theorem firstC {C : World → Prop} {d i : Nat} {oi : Oper} {v : Value} (hi : ops[i]? = some oi) (hsel : ∀ (j : Nat) (o : Oper) cs b, ops[j]? = some o → o.op ≠ .select cs b)
    (hdw : Region.waitsFor md ops d i = true) (hQ : ∀ c a w, Q (.panic c) (a.put oi.dst v) w → Q (.panic c) a w) :
    ∀ (f : Nat) (listed : Array Bool) (a : Act) (w : World), listed.getD d false = false →
      (∀ j oj, ops[j]? = some oj → j ≠ i → listed.getD j true = false → (∀ e ∈ oj.after, Region.binds md e = true → e.on ≠ i) → oi.apart ops oj = true) →
      i ∈ Region.ready md ops listed → YieldsC C P ops oi v a →
      wpAnyC C d P md ops Q f (listed.setIfInBounds i true) (a.put oi.dst v) w → wpAnyC C d P md ops Q (f + 1) listed a w := by
  have hnd : ∀ (listed : Array Bool) j, i ∈ Region.ready md ops listed → j ∈ Region.ready md ops listed → j ≠ d := fun listed j hr hj hjd => by
    subst hjd
    obtain ⟨o', ho', e, he, hb, hon⟩ := Region.waitsFor_spec hdw
    obtain ⟨_, oj, hoj, hall⟩ := mem_ready.1 hj
    obtain rfl : o' = oj := Option.some.inj (ho'.symm.trans hoj)
    have h4 := hall e he hb
    rw [hon, getD_both (mem_ready.1 hr).1] at h4
    cases h4
  intro f
  induction f with
  | zero =>
    intro listed a w hdl _ hr hy H
    have hid : i ≠ d := hnd listed i hr hr
    refine .inr ⟨hdl, H.2 (by rw [getD_set_ne false hid]; exact hdl), fun h => (by rw [h] at hr; cases hr), fun j hj => ?_⟩
    by_cases hji : j = i
    · subst hji; exact hy.op hi (H.2 (by rw [getD_set_ne false hid]; exact hdl)) H
    · have := ready_mono hj hji
      rw [H.1.1] at this
      cases this
  | succ f ih =>
    intro listed a w hdl hfree hr hy H
    have hid : i ≠ d := hnd listed i hr hr
    rcases H with H | H
    · rw [getD_set_ne false hid, hdl] at H; cases H.1
    · obtain ⟨hd1, hC, hn, H⟩ := H
      refine .inr ⟨hdl, hC, fun h => (by rw [h] at hr; cases hr), fun j hj => ?_⟩
      by_cases hji : j = i
      · subst hji; exact hy.op hi hC (.inr ⟨hd1, hC, hn, H⟩)
      · have h1 := H j (ready_mono hj hji)
        obtain ⟨hjun, oj, hoj, hall⟩ := mem_ready.1 hj
        have hnot : ∀ e ∈ oj.after, Region.binds md e = true → e.on ≠ i := fun e he hb heq => by
          have h1 := hall e he hb
          rw [heq, getD_both (mem_ready.1 hr).1] at h1
          cases h1
        have h2 := wpOp_putC hoj (hfree j oj hoj hji hjun hnot) (fun cs b => hsel i oi cs b hi) (fun cs b => hsel j oj cs b hoj) hQ hy h1
        refine wpOp_mono (fun a' w' h3 => ih (listed.setIfInBounds j true) a' w' (by rw [getD_set_ne false (hnd listed j hr hj)]; exact hdl) (fun k ok hk hki hku hno => ?_) (ready_mono hr (Ne.symm hji)) h3.1 ?_) h2
        · refine hfree k ok hk hki ?_ hno
          by_cases hjk : j = k
          · subst hjk; exact hjun
          · rw [getD_set_ne true hjk] at hku; exact hku
        · rw [Array.setIfInBounds_comm _ _ hji]
          exact h3.2
/-- Operation i first: it yields v as long as C holds, which it does until operation d, which waits for i. -/
theorem takeC {C : World → Prop} {d i : Nat} {oi : Oper} {v : Value} {f : Nat} {listed : Array Bool} {a : Act} {w : World} (hi : ops[i]? = some oi)
    (hs : Region.noSelect ops = true) (hf : Region.free md ops listed i = true) (hr : (Region.ready md ops listed).contains i = true) (hdw : Region.waitsFor md ops d i = true) (hdl : listed.getD d false = false)
    (hQ : ∀ c a w, Q (.panic c) (a.put oi.dst v) w → Q (.panic c) a w) (hy : YieldsC C P ops oi v a)
    (h : wpAnyC C d P md ops Q f (listed.setIfInBounds i true) (a.put oi.dst v) w) : wpAnyC C d P md ops Q (f + 1) listed a w :=
  firstC hi (Region.noSelect_spec hs) hdw hQ f listed a w hdl (Region.free_spec hi hf) (by simpa using hr) hy h
theorem wpOp_of_list {i : Nat} {o : Oper} {K : Act → World → Prop} {a : Act} {w : World} (ho : ops[i]? = some o) (h : wpList P ops (Exit.then K Q) [o] a w) : wpOp P ops Q i K a w := by
  unfold wpOp
  simp only [ho]
  simp only [wpList] at h
  by_cases hw : Region.wanted o (yielded ops a.tmps) = true
  · rw [if_pos hw] at h ⊢
    rcases h with h | ⟨h1, a0, w0, h2⟩
    · refine .inl ?_
      unfold Oper.wp at *
      generalize (execOp a.eval o).run P w = r at *
      cases r with
      | ok n w' =>
        cases n <;> simp only [Oper.upon] at h ⊢
        case value u => exact h
        case skip => exact h
        case defer d => exact h
        case enter f args =>
          refine Calls.mono h fun e w'' he => ?_
          cases e with
          | returned u => exact he
          | panicked c => exact he
          | outgrown => exact he
        case row row args => exact h
      | halt x w' =>
        cases x <;> simp only [Oper.upon] at h ⊢
        case panic u => exact h
    · exact .inr ⟨h1, a0, w0, h2⟩
  · rw [if_neg hw] at h ⊢
    exact h
/-- The one that may come next. -/
theorem consC {C : World → Prop} {d i : Nat} {o : Oper} {f : Nat} {listed : Array Bool} {a : Act} {w : World} (hr : Region.ready md ops listed = [i]) (hdl : listed.getD d false = false) (hC : C w) (ho : ops[i]? = some o)
    (h : ∀ K : Act → World → Prop, (∀ a w, wpAnyC C d P md ops Q f (listed.setIfInBounds i true) a w → K a w) → wpList P ops (Exit.then K Q) [o] a w) : wpAnyC C d P md ops Q (f + 1) listed a w := by
  refine .inr ⟨hdl, hC, fun h0 => (by rw [hr] at h0; cases h0), fun j hj => ?_⟩
  rw [hr] at hj
  obtain rfl : j = i := by simpa using hj
  exact wpOp_of_list ho (h _ fun _ _ h => h)
/-- Operation d is next: what is left, in its one order. -/
theorem lastC {C : World → Prop} {d : Nat} {f : Nat} {listed : Array Bool} {a : Act} {w : World} (hr : Region.ready md ops listed = [d]) (hdl : listed.getD d false = false) (hC : C w) (hlt : d < listed.size)
    (h : wpAny P md ops Q (f + 1) listed a w) : wpAnyC C d P md ops Q (f + 1) listed a w := by
  refine .inr ⟨hdl, hC, h.1, fun j hj => ?_⟩
  have hj' := hj
  rw [hr] at hj'
  obtain rfl : j = d := by simpa using hj'
  refine wpOp_mono (fun a' w' h' => ?_) (h.2 j hj)
  have hd : (listed.setIfInBounds j true).getD j false = true := by simp [hlt]
  cases f with
  | zero => exact ⟨h', fun h0 => by rw [hd] at h0; cases h0⟩
  | succ f => exact .inl ⟨hd, h'⟩
theorem rowsIn_of {l n : Nat} {row : String} {args : Array Value} {w : World} {R : Value → World → Prop} (h : Rows P row args w R) : RowsIn (Fence.wide.inRound l) n P row args w R :=
  fun c cs _ => let ⟨v, w', r, s⟩ := h c cs; ⟨v, w', r, stepsIn_wide.2 s⟩
def noDefer (ops : Array Oper) : Bool := ops.all fun o => match o.op with | .defer _ => false | _ => true
theorem noDefer_spec (h : noDefer ops = true) (j : Nat) (o : Oper) (ho : ops[j]? = some o) : ∀ c, o.op ≠ .defer c := by
  intro c heq
  have := Array.all_eq_true_iff_forall_mem.1 h o (Array.mem_of_getElem? ho)
  simp [heq] at this
theorem opIn_of {l n : Nat} {o : Oper} {a : Act} {w : World} {K : Act → World → Prop} (hnd : ∀ c, o.op ≠ .defer c) (h : o.wp P a w K Q) : o.wpIn (Fence.wide.inRound l) n P a w K Q := by
  unfold Oper.wpIn
  refine ⟨fun _ _ => trivial, ?_⟩
  rw [show (Fence.wide.inRound l).round = some l from rfl, Oper.semAt_some l _ o hnd]
  unfold Oper.wp at h
  generalize (execOp a.eval o).run P w = r at *
  cases r with
  | ok n w' =>
    cases n <;> simp only [Oper.upon, Oper.uponIn] at h ⊢
    case value u => exact h
    case skip => exact h
    case defer d => exact h
    case enter f args => exact ⟨fun h0 => (by cases h0), CallsIn.inRound l (callsIn_wide.2 h)⟩
    case row row args => exact ⟨fun h0 => (by cases h0), rowsIn_of h⟩
  | halt x w' =>
    cases x <;> simp only [Oper.upon, Oper.uponIn] at h ⊢
    case panic u => exact h
/-- A region in a round, as anywhere. -/
theorem anyIn_of {l n : Nat} (hlo : ¬ LetsOut Q) (hnd : noDefer ops = true) : ∀ (f : Nat) (listed : Array Bool) (a : Act) (w : World), wpAny P md ops Q f listed a w → wpAnyIn (Fence.wide.inRound l) n P md ops Q f listed a w
  | 0, _, _, _, h => h
  | f + 1, listed, a, w, h => by
    refine ⟨h.1, fun i hi => ?_⟩
    have h1 := h.2 i hi
    unfold wpOp at h1
    unfold wpOpIn
    cases ho : ops[i]? with
    | none => simp only [ho] at h1 ⊢; exact anyIn_of hlo hnd f _ _ _ h1
    | some o =>
      simp only [ho] at h1 ⊢
      by_cases hw : Region.wanted o (yielded ops a.tmps) = true
      · rw [if_pos hw] at h1 ⊢
        rcases h1 with h1 | h1
        · exact Oper.wpIn_mono (fun a' w' h' => anyIn_of hlo hnd f _ a' w' h') (opIn_of (noDefer_spec hnd i o ho) h1)
        · exact absurd h1.2 hlo
      · rw [if_neg hw] at h1 ⊢
        exact ⟨fun _ _ => trivial, anyIn_of hlo hnd f _ _ _ h1⟩
theorem regionIn_any {l n id : Nat} {a : Act} {w : World} (hm : P.follows .mixedOrders = true) (hlo : ¬ LetsOut Q) (hnd : noDefer ops = true)
    (h : wpAny P .any ops Q ops.size (Array.replicate ops.size false) a w.drew) : (Code.region id ops true).wpIn (Fence.wide.inRound l) n P Q a w :=
  wpIn_region_any hm (anyIn_of hlo hnd _ _ _ _ h)
/-- Operations in their order, in a round, as anywhere. -/
theorem listIn_of {l n : Nat} (hlo : ¬ LetsOut Q) : ∀ (L : List Oper) (a : Act) (w : World), (∀ o ∈ L, ∀ c, o.op ≠ .defer c) → wpList P ops Q L a w → wpListIn (Fence.wide.inRound l) n P ops Q L a w
  | [], _, _, _, h => h
  | o :: L, a, w, hnd, h => by
    simp only [wpList] at h
    simp only [wpListIn]
    by_cases hw : Region.wanted o (yielded ops a.tmps) = true
    · rw [if_pos hw] at h ⊢
      rcases h with h | h
      · exact Oper.wpIn_mono (fun a' w' h' => listIn_of hlo L a' w' (fun o' h' => hnd o' (List.mem_cons_of_mem _ h')) h') (opIn_of (hnd o (List.mem_cons_self ..)) h)
      · exact absurd h.2 hlo
    · rw [if_neg hw] at h ⊢
      exact ⟨fun _ _ => trivial, listIn_of hlo L _ _ (fun o' h' => hnd o' (List.mem_cons_of_mem _ h')) h⟩
end
end Go.Proofs.Ytngllioidfffdaa
namespace Go.Proofs.Ytngllioidfffdaa
set_option maxRecDepth 100000
open Go.RowKit
set_option linter.unusedVariables false
section
variable {P : Program} {md : Region.Mode} {ops : Array Oper} {Q : Exit → Act → World → Prop}
def takeB (md : Region.Mode) (ops : Array Oper) (listed : Array Bool) (d i : Nat) (o : Oper) (a : Act) : Bool :=
  Region.noSelect ops && (Region.free md ops listed i && ((Region.ready md ops listed).contains i && (Region.waitsFor md ops d i && (!listed.getD d false && Region.wanted o (yielded ops a.tmps)))))
theorem takeD {C : World → Prop} {d : Nat} (i : Nat) (v : Value) {oi : Oper} {f : Nat} {listed : Array Bool} {a : Act} {w : World} (hi : ops[i]? = some oi) (hb : takeB md ops listed d i oi a = true)
    (hQ : ∀ c a w, Q (.panic c) (a.put oi.dst v) w → Q (.panic c) a w) (hy : ∀ V, C V → (execOp a.eval oi).run P V = .ok (.value v) V)
    (h : wpAnyC C d P md ops Q f (listed.setIfInBounds i true) (a.put oi.dst v) w) : wpAnyC C d P md ops Q (f + 1) listed a w := by
  unfold takeB at hb
  simp only [Bool.and_eq_true, Bool.not_eq_true'] at hb
  obtain ⟨h1, h2, h3, h4, h5, h6⟩ := hb
  exact takeC hi h1 h2 h3 h4 h5 hQ (.inl ⟨h6, hy⟩) h
end
end Go.Proofs.Ytngllioidfffdaa
namespace Go.Proofs.Ytngllioidfffdaa
set_option maxRecDepth 100000
open Go.RowKit
set_option linter.unusedVariables false
/-- A world in which all is as it was, and more. -/
def farW (w U : World) (d : Decidable (Below w.heap.size w U) := Classical.propDecidable _) : World := @ite World (Below w.heap.size w U) d U w
theorem farW_eq {w U : World} (h : Below w.heap.size w U) : farW w U = U := by unfold farW; rw [if_pos h]
theorem farW_bel (w U : World) : Below w.heap.size w (farW w U) := by
  unfold farW
  split
  · assumption
  · exact Below.refl _ _
theorem farW_cell (w U : World) (a : Addr) (h : (w.cell? a).isSome = true) : (farW w U).cell? a = w.cell? a := by
  obtain ⟨v, hv⟩ := Option.isSome_iff_exists.1 h
  exact (farW_bel w U).cell (World.block_lt_of_cell? w a hv)
section
variable {P : Program}
theorem region_far {id : Nat} {Q : Exit → Act → World → Prop} {a : Act} {w : World} {l : List Oper} (hm : P.follows .mixedOrders = true) (hB : Region.lexB .any l.toArray = true)
    (h : wpQuiet P l.toArray (fun w' => ∃ U, w' = farW w U) (fun a' => ∀ w', (∃ U, w' = farW w U) → Q .normal a' w') l a) : (Code.region id l.toArray true).wp P Q a w :=
  wp_region_quiet (C := fun w' => ∃ U, w' = farW w U) hm hB ⟨w.drew, (farW_eq (Below.refl _ _).drew).symm⟩ (by simpa using h)
/-- A callee's contract, met in such a world. -/
theorem calls_far {f : FuncId} {args : Array Value} {w U : World} {v : Value} (h : Calls P f args (farW w U) fun e w' => e = .returned v ∧ Below (farW w U).heap.size (farW w U) w') : Calls P f args (farW w U) fun e w'' => e = .returned v ∧ ∃ U', w'' = farW w U' :=
  h.mono fun _ w' ⟨he, hb⟩ => ⟨he, w', (farW_eq (bel_trans (farW_bel w U) hb)).symm⟩
end
end Go.Proofs.Ytngllioidfffdaa
