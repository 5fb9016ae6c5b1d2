/-
  Small facts for rounds of a range over a function: of no program.
  Small facts for loops over events: rows of events made and set, what lies below; of no program.
  What a loop over events is handed, and what its rounds keep: of no program.
  Maps and sets that a call has made, with whole numbers or texts for keys: of no program but for the types.
  A row that was made, kept by turns of what is no cells: of no program.
-/
import Derived.Test.YtljgflgfcbmgiaaGC
import Derived.Test.YtljgflgfcbmgiaaGB
import Derived.RangeFuncNested
import Derived.RangeFuncBound
import Derived.RangeFuncCalls
import Derived.RangeFuncLeaves
import Derived.RangeFuncBox
import Derived.Shelf.Abstract
import Derived.Shelf.RegionOpen
import Derived.OwnWalkIn
import Derived.TacticsInMore
import Derived.LoopNIn
import Derived.LoopIn
import Derived.Test.YtljgflgfcbmgiaaGA
import Derived.Test.YtljgflgfcbmgiaaProg
import Derived.Maps.OwnSet
import Derived.Maps.OwnOps
import Derived.Maps.OwnIn
namespace Go.Proofs.Ytljgflgfcbmgiaa
set_option maxRecDepth 100000
open Go.RowKit Go.Shelf
set_option linter.unusedVariables false
theorem cell_al {W : World} {a : Addr} {v : Value} (o : Obj) (h : W.cell? a = some v) : (W.alloc o).cell? a = some v := cell_kept h (World.grownBy_alloc W o none) (fun r e => by cases e)
theorem owns_low {w : World} {B B' e k n : Nat} {v : Value} {xs : List Value} (h : w.ownsRow B e k v n xs) (hb : B' ≤ B) : w.ownsRow B' e k v n xs := by
  obtain ⟨h1, h2⟩ := h
  refine ⟨h1, ?_⟩
  rcases h2 with h2 | ⟨g, cap, cur, hv, hbg, r⟩
  · exact .inl h2
  · exact .inr ⟨g, cap, cur, hv, by omega, r⟩
/-- What leaves all that lay leaves all that is no cells. -/
theorem keeps_of_below {W W' : World} (h : Below W.heap.size W W') : KeepsOthers W W' :=
  ⟨h.size, fun k o hk _ => (h.block k (Array.getElem?_eq_some_iff.1 hk).1).trans hk⟩
theorem boxed_below {W W' : World} {B t : Nat} {v : Value} (h : Boxed W B t v) (hb : Below W.heap.size W W') : Boxed W' B t v := (hb.block B h.lt).trans h
/-- A block of cells lies on where only what is no cells is turned. -/
theorem block_kept {W W' : World} {row : Option Nat} {B t : Nat} {c : Array Value} (h : W.heap[B]? = some (.cells c t (0, 0))) (hg : W.grownBy W' row) (hr : ∀ r, row = some r → ∃ o : Obj, W.heap[r]? = some o ∧ o.isCells = false) : W'.heap[B]? = some (.cells c t (0, 0)) :=
  (hg.block B (Array.getElem?_eq_some_iff.1 h).1 (fun e => by obtain ⟨o, ho, hc⟩ := hr B e.symm; rw [h] at ho; cases ho; cases hc)).trans h
/-- A block of cells of another type is no owned row's. -/
theorem block_not_row {W : World} {B t e : Nat} {c : Array Value} (h : W.heap[B]? = some (.cells c t (0, 0))) (hte : t ≠ e) {base size k : Nat} {v : Value} {xs : List Value} (hr : W.ownsRow base e size v k xs) : some B ≠ v.ownBlock := by
  rcases hr.2 with ⟨rfl, _⟩ | ⟨g, cap, cur, rfl, _, hgb, _⟩
  · simp [Value.ownBlock]
  · intro e'
    obtain rfl : B = g := by simpa [Value.ownBlock] using e'
    rw [h] at hgb
    simp at hgb
    exact hte hgb.2
theorem cell_of_block {W : World} {B t : Nat} {c : Array Value} {f : Nat × Nat} (h : W.heap[B]? = some (.cells c t f)) (j : Nat) : W.cell? ⟨B, j, none⟩ = c[j]? := by simp [World.cell?, h]
end Go.Proofs.Ytljgflgfcbmgiaa
namespace Go.Proofs.Ytljgflgfcbmgiaa
set_option maxRecDepth 100000
open Go.RowKit Go.Shelf
set_option linter.unusedVariables false
abbrev EvZ : Ev := (0, 0, [], [])
theorem made_evs7 (n : Nat) : (madeCells #[.int .i64 0, .int .i64 0, .string ByteArray.empty, .string ByteArray.empty] (n * 4)).toList = recV evV (List.replicate n EvZ) := by
  apply List.ext_getElem?
  intro j
  by_cases hj : j < n * 4
  · have g := recV_get evV_len (List.replicate n EvZ) (j / 4) (by simp; omega) (j % 4) (by omega)
    rw [show j / 4 * 4 + j % 4 = j by omega] at g
    rw [g, List.getElem_replicate]
    have h4 : j % 4 = 0 ∨ j % 4 = 1 ∨ j % 4 = 2 ∨ j % 4 = 3 := by omega
    rcases h4 with h4 | h4 | h4 | h4 <;> rw [h4] <;> simp [madeCells, hj, h4, evV] <;> rfl
  · have l := recV_length evV_len (List.replicate n EvZ)
    rw [List.length_replicate] at l
    rw [List.getElem?_eq_none (l := recV evV _) (by rw [l]; omega)]
    simp [madeCells, hj]
theorem evs_put7 (D R : List Ev) (z x : Ev) : ((((recV evV (D ++ z :: R)).set (D.length * 4) (.int .i64 x.1)).set (D.length * 4 + 1) (.int .i64 x.2.1)).set (D.length * 4 + 2) (.string ⟨x.2.2.1.toArray⟩)).set (D.length * 4 + 3) (.string ⟨x.2.2.2.toArray⟩) = recV evV (D ++ x :: R) := by
  have l := recV_length evV_len D
  have c : ∀ y, recV evV (D ++ y :: R) = recV evV D ++ (evV y ++ recV evV R) := fun y => by rw [recV_append, show y :: R = [y] ++ R from rfl, recV_append]; simp [recV]
  rw [c, c, List.set_append_right _ _ (by omega), List.set_append_right _ _ (by omega), List.set_append_right _ _ (by omega), List.set_append_right _ _ (by omega), l, show D.length * 4 - D.length * 4 = 0 by omega, show D.length * 4 + 1 - D.length * 4 = 1 by omega, show D.length * 4 + 2 - D.length * 4 = 2 by omega, show D.length * 4 + 3 - D.length * 4 = 3 by omega]
  rfl
theorem evs_set7 (L : List Ev) (i : Nat) (hi : i < L.length) (x : Ev) : ((((recV evV L).set (i * 4) (.int .i64 x.1)).set (i * 4 + 1) (.int .i64 x.2.1)).set (i * 4 + 2) (.string ⟨x.2.2.1.toArray⟩)).set (i * 4 + 3) (.string ⟨x.2.2.2.toArray⟩) = recV evV (L.set i x) := by
  have e : L = L.take i ++ L[i] :: L.drop (i + 1) := by rw [← List.drop_eq_getElem_cons hi, List.take_append_drop]
  have hl : (L.take i).length = i := by rw [List.length_take]; omega
  have h := evs_put7 (L.take i) (L.drop (i + 1)) L[i] x
  rw [← e, hl] at h
  rw [h, List.set_eq_take_append_cons_drop, if_pos hi]
/-- One event of a row set. -/
def putE (W : World) (g i : Nat) (x : Ev) : World := (((W.setCell ⟨g, i * 4, none⟩ (.int .i64 x.1)).setCell ⟨g, i * 4 + 1, none⟩ (.int .i64 x.2.1)).setCell ⟨g, i * 4 + 2, none⟩ (.string ⟨x.2.2.1.toArray⟩)).setCell ⟨g, i * 4 + 3, none⟩ (.string ⟨x.2.2.2.toArray⟩)
theorem putE_row {W : World} {B e g n cap i : Nat} {L : List Ev} (h : W.ownsRow B e 4 (.slice (some ⟨g, 0, none⟩) n cap) n (recV evV L)) (hi : i < L.length) (x : Ev) : (putE W g i x).ownsRow B e 4 (.slice (some ⟨g, 0, none⟩) n cap) n (recV evV (L.set i x)) := by
  have hs := ((((h.stored (i * 4) (.int .i64 x.1)).1.stored (i * 4 + 1) (.int .i64 x.2.1)).1.stored (i * 4 + 2) (.string ⟨x.2.2.1.toArray⟩)).1.stored (i * 4 + 3) (.string ⟨x.2.2.2.toArray⟩)).1
  rw [evs_set7 L i hi x] at hs
  exact hs
theorem putE_other (W : World) (g i : Nat) (x : Ev) (b : Nat) (hb : b ≠ g) : (putE W g i x).heap[b]? = W.heap[b]? := by
  unfold putE
  rw [Below.heap_setCell _ _ _ b hb, Below.heap_setCell _ _ _ b hb, Below.heap_setCell _ _ _ b hb, Below.heap_setCell _ _ _ b hb]
theorem putE_size (W : World) (g i : Nat) (x : Ev) : (putE W g i x).heap.size = W.heap.size := by simp [putE]
theorem putE_below {B : Nat} {A W : World} (h : Below B A W) (g i : Nat) (x : Ev) (hg : B ≤ g) : Below B A (putE W g i x) :=
  (((h.setCell (p := ⟨g, i * 4, none⟩) hg _).setCell (p := ⟨g, i * 4 + 1, none⟩) hg _).setCell (p := ⟨g, i * 4 + 2, none⟩) hg _).setCell (p := ⟨g, i * 4 + 3, none⟩) hg _
theorem putE_keeps (W : World) (g i : Nat) (x : Ev) : KeepsOthers W (putE W g i x) :=
  (((KeepsOthers.setCell W _ _).trans (KeepsOthers.setCell _ _ _)).trans (KeepsOthers.setCell _ _ _)).trans (KeepsOthers.setCell _ _ _)
/-- The cells of one event of a row. -/
theorem row_cells {W : World} {B e g n cap i : Nat} {L : List Ev} (h : W.ownsRow B e 4 (.slice (some ⟨g, 0, none⟩) n cap) n (recV evV L)) (hn : L.length = n) (hi : i < n) :
    ∃ y : Ev, (W.cell? ⟨g, i * 4, none⟩ = some (.int .i64 y.1) ∧ W.cell? ⟨g, i * 4 + 1, none⟩ = some (.int .i64 y.2.1) ∧ W.cell? ⟨g, i * 4 + 2, none⟩ = some (.string ⟨y.2.2.1.toArray⟩) ∧ W.cell? ⟨g, i * 4 + 3, none⟩ = some (.string ⟨y.2.2.2.toArray⟩)) ∧
      (W.frozen? ⟨g, i * 4, none⟩ = false ∧ W.frozen? ⟨g, i * 4 + 1, none⟩ = false ∧ W.frozen? ⟨g, i * 4 + 2, none⟩ = false ∧ W.frozen? ⟨g, i * 4 + 3, none⟩ = false) := by
  have hi' : i < L.length := by omega
  refine ⟨L[i], ⟨?_, ?_, ?_, ?_⟩, h.frozenAt _, h.frozenAt _, h.frozenAt _, h.frozenAt _⟩
  · have c := h.cellAt (i * 4) (by omega)
    rw [show i * 4 = i * 4 + 0 by omega, recV_get evV_len L i hi' 0 (by omega)] at c
    exact c
  · have c := h.cellAt (i * 4 + 1) (by omega)
    rw [recV_get evV_len L i hi' 1 (by omega)] at c
    exact c
  · have c := h.cellAt (i * 4 + 2) (by omega)
    rw [recV_get evV_len L i hi' 2 (by omega)] at c
    exact c
  · have c := h.cellAt (i * 4 + 3) (by omega)
    rw [recV_get evV_len L i hi' 3 (by omega)] at c
    exact c
theorem boxed_bel {W W' : World} {B b t : Nat} {v : Value} (h : Boxed W b t v) (hb : Below B W W') (hlt : b < B) : Boxed W' b t v := (hb.block b hlt).trans h
theorem sbox_bel {W W' : World} {B b t : Nat} {c : Array Value} (h : SBox W b t c) (hb : Below B W W') (hlt : b < B) : SBox W' b t c := (hb.block b hlt).trans h
theorem owns_bel {B C e k n g m cap : Nat} {xs : List Value} {w w' : World} (h : w.ownsRow B e k (.slice (some ⟨g, 0, none⟩) m cap) n xs) (hb : Below C w w') (hg : g < C) : w'.ownsRow B e k (.slice (some ⟨g, 0, none⟩) m cap) n xs := by
  obtain ⟨h1, h2⟩ := h
  refine ⟨h1, ?_⟩
  rcases h2 with h2 | ⟨g', cap', cur, hv, hbg, hg', r⟩
  · exact .inl h2
  · refine .inr ⟨g', cap', cur, hv, hbg, (hb.block g' ?_).trans hg', r⟩
    simp at hv
    omega
theorem ownFrom_of_below {β : Type} {B : Nat} {I : β → World → Prop} (hs : ∀ s W, I s W → B ≤ W.heap.size) (h : ∀ s W W', I s W → Below B W W' → I s W') : OwnFrom B I :=
  fun s W W' row hi hg hr => h s W W' hi ((Below.refl B W).grown hg (hs s W hi) (fun k e => (hr k e).1))
theorem ownFrom_false {β : Type} (B : Nat) : OwnFrom B (fun (_ : β) (_ : World) => False) := fun _ _ _ _ h _ _ => h
theorem wpListIn_make_full7 {F : Fence} {n : Nat} {P : Program} (w : World) {ops : Array Oper} {rest : List Oper} {o : Oper} {a : Act} {Q : Exit → Act → World → Prop}
    (hg : o.guard = none) (l c : Operand) (t : TypeId) (hop : o.op = Op.makeSlice t l c)
    (base : Nat) (e : TypeId) (i : TypeInfo) (z : Value) (size : Nat) (h1 : P.underlying t = some (.slice e)) (h2 : P.info? e = some i) (h3 : i.zero = some z) (h4 : i.size = size)
    (kl kc : IntKind) (L C : Int) (m : Nat) (hl : a.eval l = .int kl L) (hc : a.eval c = .int kc C) (hL : L = (m : Int)) (hC : C = (m : Int)) (b2 : i.bytes * m ≤ 281474976710656) (b3 : m ≤ maxLen) (b4 : base ≤ w.heap.size)
    (hK : ∀ w', w'.ownsRow base e size (.slice (some ⟨w.heap.size, 0, none⟩) m m) m (madeCells z.cells (m * size)).toList → w.grownBy w' none → wpListIn F n P ops Q rest (a.put o.dst (.slice (some ⟨w.heap.size, 0, none⟩) m m)) w') :
    wpListIn F n P ops Q (o :: rest) a w := by
  refine wpListIn_plain hg fun K hK' => ?_
  obtain ⟨w', hrun, r1, r2⟩ := run_make_full (P := P) w base t e i z size h1 h2 h3 h4 kl kc m b2 b3 b4
  subst hL
  subst hC
  unfold Oper.wpIn
  refine ⟨?_, ?_⟩
  · simp [Oper.about, hop]
  · rw [Oper.semAt_plain F _ _ (by rw [hop]; intro c hc'; cases hc')]
    simp [execOp, hop, hl, hc, hrun, Result.andThen]
    exact hK' _ _ (hK w' r1 r2)
end Go.Proofs.Ytljgflgfcbmgiaa
namespace Go.Proofs.Ytljgflgfcbmgiaa
set_option maxRecDepth 100000
open Go.RowKit Go.Shelf
set_option linter.unusedVariables false
/-- A place and its event, as they are handed to a round. -/
abbrev ixV (h : List Ev) (i : Fin h.length) : Array Value := #[.int .i64 (i.val : Int), evW h[i.val]]
/-- What a round keeps: all that lay ahead, and the iterator's own box. -/
def KpE (n b : Nat) (W W' : World) : Prop := Below n W W' ∧ W'.heap[b]? = W.heap[b]?
theorem kpE_t {n b : Nat} {A B C : World} (h : KpE n b A B) (k : KpE n b B C) : KpE n b A C := ⟨h.1.trans k.1, k.2.trans h.2⟩
theorem kpE_b {n b : Nat} {w : World} (hn : n ≤ w.heap.size) (hb : b < w.heap.size) (W : World) (l : Nat) (o o' : Obj) (hl : w.heap.size ≤ l) (h : W.heap[l]? = some o) (h1 : o.isCells = false) (h2 : o.isWalk = false) : KpE n b W (W.putObj l o') :=
  ⟨belowK_b hn W l o o' hl h h1 h2, World.putObj_heap_other (by omega)⟩
theorem boxed_below7 {W W' : World} {B : Nat} {t : TypeId} {v : Value} (h : Boxed W B t v) (b : Below W.heap.size W W') : Boxed W' B t v := (b.block B h.lt).trans h
end Go.Proofs.Ytljgflgfcbmgiaa
namespace Go.Proofs.Ytljgflgfcbmgiaa
set_option maxRecDepth 100000
open Go.RowKit Go.Maps
set_option linter.unusedVariables false
theorem grown_below8 {a b : World} (x : Option Nat) (h : Below a.heap.size a b) : a.grownBy b x := ⟨h.os, h.tape, h.output, h.size, fun i hi _ => h.block i hi⟩
theorem law8i : Keyed Try.prog 3 := int_keyed Try.underlying3
theorem law8s : Keyed Try.prog 9 := string_keyed Try.underlying9
theorem zero8i (w : World) : (zeroValue 3).run Try.prog w = .ok (.int .i64 0) w := by kernel_rfl
abbrev I64 (t : Int) : Prop := -9223372036854775808 ≤ t ∧ t ≤ 9223372036854775807
theorem key8i {t : Int} (ht : I64 t) : keyOf Try.prog 3 (.int .i64 t) = some (.int .i64 t) := keyOf_int_mk Try.underlying3 (WalkArith.wf_i64 ht)
theorem key8s {t : List UInt8} (ht : t.length ≤ 9223372036854775807) : keyOf Try.prog 9 (.string ⟨t.toArray⟩) = some (.string t) := by
  have := Go.WideMaps.keyOf_string_mk (P := Try.prog) (k := 9) (s := ⟨t.toArray⟩) Try.underlying9 (by rw [ba_size]; unfold maxLen; omega)
  simpa using this
/-- Numbers by numbers. -/
def IMap (W : World) (b n : Nat) (f : Int → Option Int) : Prop :=
  ∃ D : DataW Unit, W.ownsMap Try.prog 3 (plainElem Try.prog 3) b n D ∧ ∀ t : Int, Maps.has D (.int .i64 t) = (f t).isSome ∧ ∀ k, f t = some k → D.atKey (.int .i64 t) (.lit (.int .i64 0)) = .lit (.int .i64 k)
/-- A set of numbers; of texts. -/
def ISet (W : World) (b n : Nat) (p : Int → Bool) : Prop :=
  ∃ D : DataW Unit, W.ownsMap Try.prog 3 unitElem b n D ∧ ∀ t : Int, Maps.has D (.int .i64 t) = p t
def TSet (W : World) (b n : Nat) (p : List UInt8 → Bool) : Prop :=
  ∃ D : DataW Unit, W.ownsMap Try.prog 9 unitElem b n D ∧ ∀ t : List UInt8, Maps.has D (.string t) = p t
section
variable {W W' : World} {b n m B : Nat} {row : Option Nat}
theorem IMap.kept {f : Int → Option Int} (h : IMap W b n f) (hg : W.grownBy W' row) (hne : some b ≠ row) : IMap W' b n f := by
  obtain ⟨D, h1, h2⟩ := h; exact ⟨D, h1.kept hg hne, h2⟩
theorem ISet.kept {p : Int → Bool} (h : ISet W b n p) (hg : W.grownBy W' row) (hne : some b ≠ row) : ISet W' b n p := by
  obtain ⟨D, h1, h2⟩ := h; exact ⟨D, h1.kept hg hne, h2⟩
theorem TSet.kept {p : List UInt8 → Bool} (h : TSet W b n p) (hg : W.grownBy W' row) (hne : some b ≠ row) : TSet W' b n p := by
  obtain ⟨D, h1, h2⟩ := h; exact ⟨D, h1.kept hg hne, h2⟩
theorem IMap.same {f : Int → Option Int} (h : IMap W b n f) (hb : W'.heap[b]? = W.heap[b]?) : IMap W' b n f := by
  obtain ⟨D, ⟨es, clock, h1, h2⟩, h3⟩ := h; exact ⟨D, ⟨es, clock, hb.trans h1, h2⟩, h3⟩
theorem ISet.same {p : Int → Bool} (h : ISet W b n p) (hb : W'.heap[b]? = W.heap[b]?) : ISet W' b n p := by
  obtain ⟨D, ⟨es, clock, h1, h2⟩, h3⟩ := h; exact ⟨D, ⟨es, clock, hb.trans h1, h2⟩, h3⟩
theorem TSet.same {p : List UInt8 → Bool} (h : TSet W b n p) (hb : W'.heap[b]? = W.heap[b]?) : TSet W' b n p := by
  obtain ⟨D, ⟨es, clock, h1, h2⟩, h3⟩ := h; exact ⟨D, ⟨es, clock, hb.trans h1, h2⟩, h3⟩
theorem IMap.bel {f : Int → Option Int} (h : IMap W b n f) (hb : Below B W W') (hlt : b < B) : IMap W' b n f := h.same (hb.block b hlt)
theorem ISet.bel {p : Int → Bool} (h : ISet W b n p) (hb : Below B W W') (hlt : b < B) : ISet W' b n p := h.same (hb.block b hlt)
theorem TSet.bel {p : List UInt8 → Bool} (h : TSet W b n p) (hb : Below B W W') (hlt : b < B) : TSet W' b n p := h.same (hb.block b hlt)
theorem IMap.lt {f : Int → Option Int} (h : IMap W b n f) : b < W.heap.size := by obtain ⟨D, h1, h2⟩ := h; exact h1.lt
theorem ISet.lt {p : Int → Bool} (h : ISet W b n p) : b < W.heap.size := by obtain ⟨D, h1, h2⟩ := h; exact h1.lt
theorem TSet.lt {p : List UInt8 → Bool} (h : TSet W b n p) : b < W.heap.size := by obtain ⟨D, h1, h2⟩ := h; exact h1.lt
theorem IMap.mono {f : Int → Option Int} (h : IMap W b n f) (hn : n ≤ m) : IMap W b m f := by obtain ⟨D, h1, h2⟩ := h; exact ⟨D, h1.mono hn, h2⟩
theorem ISet.mono {p : Int → Bool} (h : ISet W b n p) (hn : n ≤ m) : ISet W b m p := by obtain ⟨D, h1, h2⟩ := h; exact ⟨D, h1.mono hn, h2⟩
theorem TSet.mono {p : List UInt8 → Bool} (h : TSet W b n p) (hn : n ≤ m) : TSet W b m p := by obtain ⟨D, h1, h2⟩ := h; exact ⟨D, h1.mono hn, h2⟩
theorem IMap.made (w : World) : IMap (w.alloc (.map #[] 0)) w.heap.size 0 (fun _ => none) := ⟨.map [], World.ownsMap_made w _ _ _, fun t => ⟨rfl, fun k h => by cases h⟩⟩
theorem ISet.made (w : World) : ISet (w.alloc (.map #[] 0)) w.heap.size 0 (fun _ => false) := ⟨.map [], World.ownsMap_made w _ _ _, fun t => rfl⟩
theorem TSet.made (w : World) : TSet (w.alloc (.map #[] 0)) w.heap.size 0 (fun _ => false) := ⟨.map [], World.ownsMap_made w _ _ _, fun t => rfl⟩
/-- What is known behind a store. -/
def updI (f : Int → Option Int) (t k : Int) : Int → Option Int := fun u => if u = t then some k else f u
theorem IMap.put {f : Int → Option Int} {D : DataW Unit} (hd : ∀ t : Int, Maps.has D (.int .i64 t) = (f t).isSome ∧ ∀ k, f t = some k → D.atKey (.int .i64 t) (.lit (.int .i64 0)) = .lit (.int .i64 k)) (hm : IsMap D) (t k : Int)
    (h : W.ownsMap Try.prog 3 (plainElem Try.prog 3) b n (D.put (.int .i64 t) (.lit (.int .i64 k)))) : IMap W b n (updI f t k) := by
  refine ⟨_, h, fun u => ?_⟩
  unfold updI
  by_cases hu : u = t
  · subst hu
    rw [if_pos rfl]
    refine ⟨?_, fun c hc => ?_⟩
    · rw [has_put_same hm (show WideAt.IsKeyLit (.int .i64 u) from trivial)]; rfl
    · rw [atKey_put_same hm (show WideAt.IsKeyLit (.int .i64 u) from trivial)]
      simp at hc
      rw [hc]
  · rw [if_neg hu]
    have hne : (Lit.int .i64 u) ≠ Lit.int .i64 t := fun h => hu (by cases h; rfl)
    refine ⟨?_, fun c hc => ?_⟩
    · rw [has_put_other hne]; exact (hd u).1
    · rw [atKey_put_other hne]; exact (hd u).2 c hc
theorem ISet.put {p : Int → Bool} {D : DataW Unit} (hd : ∀ t : Int, Maps.has D (.int .i64 t) = p t) (hm : IsMap D) (t : Int) (h : W.ownsMap Try.prog 3 unitElem b n (D.put (.int .i64 t) (.agg []))) : ISet W b n (fun u => p u || decide (t = u)) := by
  refine ⟨_, h, fun u => ?_⟩
  by_cases hu : u = t
  · subst hu
    rw [has_put_same hm (show WideAt.IsKeyLit (.int .i64 u) from trivial)]
    simp
  · have hne : (Lit.int .i64 u) ≠ Lit.int .i64 t := fun h => hu (by cases h; rfl)
    rw [has_put_other hne, hd u]
    show p u = (p u || decide (t = u))
    rw [decide_eq_false (fun e : t = u => hu e.symm), Bool.or_false]
theorem TSet.put {p : List UInt8 → Bool} {D : DataW Unit} (hd : ∀ t : List UInt8, Maps.has D (.string t) = p t) (hm : IsMap D) (t : List UInt8) (h : W.ownsMap Try.prog 9 unitElem b n (D.put (.string t) (.agg []))) : TSet W b n (fun u => p u || decide (t = u)) := by
  refine ⟨_, h, fun u => ?_⟩
  by_cases hu : u = t
  · subst hu
    rw [has_put_same hm (show WideAt.IsKeyLit (.string u) from trivial)]
    simp
  · have hne : (Lit.string u) ≠ Lit.string t := fun h => hu (by cases h; rfl)
    rw [has_put_other hne, hd u]
    show p u = (p u || decide (t = u))
    rw [decide_eq_false (fun e : t = u => hu e.symm), Bool.or_false]
end
end Go.Proofs.Ytljgflgfcbmgiaa
namespace Go.Proofs.Ytljgflgfcbmgiaa
set_option maxRecDepth 100000
open Go.RowKit Go.Shelf Go.Maps
set_option linter.unusedVariables false
theorem owns_turn {W W' : World} {row : Option Nat} {B e k n : Nat} {v : Value} {xs : List Value} (h : W.ownsRow B e k v n xs) (hg : W.grownBy W' row) (hr : ∀ r, row = some r → ∃ o : Obj, W.heap[r]? = some o ∧ o.isCells = false) : W'.ownsRow B e k v n xs := by
  refine h.kept hg ?_
  rcases h.2 with ⟨rfl, _⟩ | ⟨g, cap, cur, rfl, _, hgb, _⟩
  · exact .inl rfl
  · refine .inr (fun e => ?_)
    obtain ⟨o, ho, hc⟩ := hr g (by rw [← e]; rfl)
    rw [hgb] at ho
    cases ho
    cases hc
theorem keeps_row {W W' : World} {B e k n : Nat} {v : Value} {xs : List Value} (h : W.ownsRow B e k v n xs) (hg : W.grownBy W' v.ownBlock) : KeepsOthers W W' :=
  KeepsOthers.of_grownBy hg (fun j o ej hj => by
    rcases h.2 with ⟨rfl, _⟩ | ⟨g, cap, cur, rfl, _, hgb, _⟩
    · simp [Value.ownBlock] at ej
    · obtain rfl : g = j := by simpa [Value.ownBlock] using ej
      rw [hgb] at hj
      cases hj
      rfl)
end Go.Proofs.Ytljgflgfcbmgiaa
