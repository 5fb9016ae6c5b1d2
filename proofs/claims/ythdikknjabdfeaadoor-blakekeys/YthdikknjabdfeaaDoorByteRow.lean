/-
  Rows of bytes in memory: as a string; a string copied over one: of no program.
-/
import Derived.Test.YthdikknjabdfeaaDoorBase
import Derived.Test.YthdikknjabdfeaaDoorBytes
import Derived.Lib.BufferWrite
import Derived.Lib.AppendStr
import Derived.Laws.Rows
import Derived.Laws.CopyOwn
namespace Go.Proofs.YthdikknjabdfeaaDoor
open Go.RowKit
set_option linter.unusedVariables false
def bv (l : List UInt8) : Array Value := (Lib.byteCells l).toArray
theorem bv_size (l : List UInt8) : (bv l).size = l.length := by simp [bv, Lib.byteCells]
theorem bv_get (l : List UInt8) (i : Nat) (h : i < l.length) : (bv l)[i]? = some (.int .u8 ((l[i]'h).toNat : Int)) := by simp [bv, Lib.byteCells, h]
theorem bv_set (l : List UInt8) (i : Nat) (x : UInt8) : (bv l).setIfInBounds i (.int .u8 (x.toNat : Int)) = bv (l.set i x) := by simp [bv, Lib.byteCells]
/-- Block g is a row of the bytes l. -/
def BRow (w : World) (g : Nat) (t : TypeId) (l : List UInt8) : Prop := w.heap[g]? = some (.cells (bv l) t (0, 0))
theorem BRow.lt {w : World} {g : Nat} {t : TypeId} {l : List UInt8} (h : BRow w g t l) : g < w.heap.size := by
  rcases Nat.lt_or_ge g w.heap.size with h' | h'
  · exact h'
  · simp [BRow, Array.getElem?_eq_none h'] at h
theorem BRow.cell {w : World} {g : Nat} {t : TypeId} {l : List UInt8} (h : BRow w g t l) (i : Nat) (hi : i < l.length) : w.cell? ⟨g, i, none⟩ = some (.int .u8 ((l[i]'hi).toNat : Int)) := by
  rw [cell_of_row w g i _ _ _ h, bv_get l i hi]
theorem BRow.frozen {w : World} {g : Nat} {t : TypeId} {l : List UInt8} (h : BRow w g t l) (i : Nat) : w.frozen? ⟨g, i, none⟩ = false := frozen_of_row w g i _ _ h
theorem BRow.set {w : World} {g : Nat} {t : TypeId} {l : List UInt8} (h : BRow w g t l) (i : Nat) (x : UInt8) : BRow (w.setCell ⟨g, i, none⟩ (.int .u8 (x.toNat : Int))) g t (l.set i x) := by
  have := heap_setCell_same w g i _ _ (.int .u8 (x.toNat : Int)) h
  unfold BRow
  rw [this, bv_set]
theorem BRow.string {P : Program} {w : World} {g : Nat} {t : TypeId} {l : List UInt8} (h : BRow w g t l) (src e dst : TypeId) (hs : P.underlying src = some (.slice e)) (he : P.underlying e = some (.int .u8)) (hd : P.underlying dst = some .string) (n cap : Nat) (hn : l.length = n) :
    (convert src dst (.slice (some ⟨g, 0, none⟩) n cap)).run P w = .ok (.string ⟨l.toArray⟩) w := by
  have := run_convert_bytes_arg (P := P) w src e hs he g 0 n cap (l.map fun b => (b.toNat : Int)) (by simpa using hn) (fun i hi => by
    rw [Nat.zero_add, h.cell i (by omega)]
    simp [show i < l.length by omega]) dst hd
  rw [this]
  have e : strOfNums (l.map fun b => (b.toNat : Int)) = ⟨l.toArray⟩ := by
    apply ByteArray.ext
    show ((l.map fun b => (b.toNat : Int)).map fun n => UInt8.ofNat n.toNat).toArray = l.toArray
    rw [List.map_map]
    congr 1
    refine (List.map_congr_left fun b _ => ?_).trans (List.map_id l)
    show UInt8.ofNat ((b.toNat : Int)).toNat = b
    simp
  rw [e]
/-- 'copy(dst, s)' of a string that fits, over a row of bytes. -/
theorem wpList_copy_str {P : Program} {w : World} {ops : Array Oper} {rest : List Oper} {o : Oper} {a : Act} {Q : Exit → Act → World → Prop} (hgd : o.guard = none) (d x : Operand) (dT sT : TypeId)
    (hop : o.op = Op.call { callee := Callee.builtin Builtin.copy, args := #[d, x], argTypes := #[dT, sT] }) (elem : TypeId) (hu : P.underlying dT = some (.slice elem)) (hs : (P.info? elem).map (·.size) = some 1)
    (g dLen dCap : Nat) (hd : a.eval d = .slice (some ⟨g, 0, none⟩) dLen dCap) (l m : List UInt8) (hx : a.eval x = .string ⟨m.toArray⟩) (t : TypeId) (hg : BRow w g t l) (h1 : m.length ≤ dLen) (h2 : m.length ≤ l.length)
    (h : wpList P ops Q rest (a.put o.dst (goInt m.length)) (w.setRow g (bv (m ++ l.drop m.length)))) : wpList P ops Q (o :: rest) a w := by
  have hrun := Lib.run_copy_row_string (P := P) w dT sT o.type elem g 0 dLen dCap ⟨m.toArray⟩ (bv l) t hu hs hg (by rw [ba_size]; exact h1) (by rw [ba_size, bv_size]; omega)
  have e : ((bv l).toList.take 0 ++ Lib.byteCells (⟨m.toArray⟩ : ByteArray).data.toList ++ (bv l).toList.drop (0 + (⟨m.toArray⟩ : ByteArray).size)).toArray = bv (m ++ l.drop m.length) := by
    rw [ba_size]
    simp [bv, Lib.byteCells]
  rw [e, ba_size] at hrun
  refine wpList_plain hgd fun _ hK => ?_
  unfold Oper.wp
  simp [execOp, hop, resolve, invoke, builtin, hd, hx, hrun, Result.andThen]
  exact hK _ _ h
/-- Noughts behind a text, up to 64 bytes. -/
def padL (l : List UInt8) : List UInt8 := l ++ List.replicate (64 - l.length) 0
theorem padL_len (l : List UInt8) (h : l.length ≤ 64) : (padL l).length = 64 := by simp [padL]; omega
end Go.Proofs.YthdikknjabdfeaaDoor
