/-
  Small facts for rounds of a range over a function: of no program.
  Small facts for loops over events: rows of events made and set, what lies below; of no program.
  What a loop over events is handed, and what its rounds keep: of no program.
  Maps and sets that a call has made, with whole numbers or texts for keys: of no program but for the types.
  A row that was made, kept by turns of what is no cells: of no program.
  A range over a function that itself ranges over one (it turns blocks of its own between two rounds): of no program.
-/
import Derived.Test.YteehpkkkagdckaaGC
import Derived.Test.YteehpkkkagdckaaGB
import Derived.RangeFuncNested
import Derived.RangeFuncBound
import Derived.RangeFuncCalls
import Derived.RangeFuncLeaves
import Derived.RangeFuncBox
import Derived.Shelf.Abstract
import Derived.Shelf.RegionOpen
import Derived.OwnWalkIn
import Derived.TacticsInMore
import Derived.LoopNIn
import Derived.LoopIn
import Derived.Test.YteehpkkkagdckaaGA
import Derived.Test.YteehpkkkagdckaaProg
import Derived.Maps.OwnSet
import Derived.Maps.OwnOps
import Derived.Maps.OwnIn
namespace Go.Proofs.Yteehpkkkagdckaa
set_option maxRecDepth 100000
open Go.RowKit Go.Shelf
set_option linter.unusedVariables false
theorem cell_al {W : World} {a : Addr} {v : Value} (o : Obj) (h : W.cell? a = some v) : (W.alloc o).cell? a = some v := cell_kept h (World.grownBy_alloc W o none) (fun r e => by cases e)
theorem owns_low {w : World} {B B' e k n : Nat} {v : Value} {xs : List Value} (h : w.ownsRow B e k v n xs) (hb : B' ≤ B) : w.ownsRow B' e k v n xs := by
  obtain ⟨h1, h2⟩ := h
  refine ⟨h1, ?_⟩
  rcases h2 with h2 | ⟨g, cap, cur, hv, hbg, r⟩
  · exact .inl h2
  · exact .inr ⟨g, cap, cur, hv, by omega, r⟩
/-- What leaves all that lay leaves all that is no cells. -/
theorem keeps_of_below {W W' : World} (h : Below W.heap.size W W') : KeepsOthers W W' :=
  ⟨h.size, fun k o hk _ => (h.block k (Array.getElem?_eq_some_iff.1 hk).1).trans hk⟩
theorem boxed_below {W W' : World} {B t : Nat} {v : Value} (h : Boxed W B t v) (hb : Below W.heap.size W W') : Boxed W' B t v := (hb.block B h.lt).trans h
/-- A block of cells lies on where only what is no cells is turned. -/
theorem block_kept {W W' : World} {row : Option Nat} {B t : Nat} {c : Array Value} (h : W.heap[B]? = some (.cells c t (0, 0))) (hg : W.grownBy W' row) (hr : ∀ r, row = some r → ∃ o : Obj, W.heap[r]? = some o ∧ o.isCells = false) : W'.heap[B]? = some (.cells c t (0, 0)) :=
  (hg.block B (Array.getElem?_eq_some_iff.1 h).1 (fun e => by obtain ⟨o, ho, hc⟩ := hr B e.symm; rw [h] at ho; cases ho; cases hc)).trans h
/-- A block of cells of another type is no owned row's. -/
theorem block_not_row {W : World} {B t e : Nat} {c : Array Value} (h : W.heap[B]? = some (.cells c t (0, 0))) (hte : t ≠ e) {base size k : Nat} {v : Value} {xs : List Value} (hr : W.ownsRow base e size v k xs) : some B ≠ v.ownBlock := by
  rcases hr.2 with ⟨rfl, _⟩ | ⟨g, cap, cur, rfl, _, hgb, _⟩
  · simp [Value.ownBlock]
  · intro e'
    obtain rfl : B = g := by simpa [Value.ownBlock] using e'
    rw [h] at hgb
    simp at hgb
    exact hte hgb.2
theorem cell_of_block {W : World} {B t : Nat} {c : Array Value} {f : Nat × Nat} (h : W.heap[B]? = some (.cells c t f)) (j : Nat) : W.cell? ⟨B, j, none⟩ = c[j]? := by simp [World.cell?, h]
end Go.Proofs.Yteehpkkkagdckaa
namespace Go.Proofs.Yteehpkkkagdckaa
set_option maxRecDepth 100000
open Go.RowKit Go.Shelf
set_option linter.unusedVariables false
abbrev EvZ : Ev := (0, 0, [], [])
theorem made_evs7 (n : Nat) : (madeCells #[.int .i64 0, .int .i64 0, .string ByteArray.empty, .string ByteArray.empty] (n * 4)).toList = recV evV (List.replicate n EvZ) := by
  apply List.ext_getElem?
  intro j
  by_cases hj : j < n * 4
  · have g := recV_get evV_len (List.replicate n EvZ) (j / 4) (by simp; omega) (j % 4) (by omega)
    rw [show j / 4 * 4 + j % 4 = j by omega] at g
    rw [g, List.getElem_replicate]
    have h4 : j % 4 = 0 ∨ j % 4 = 1 ∨ j % 4 = 2 ∨ j % 4 = 3 := by omega
    rcases h4 with h4 | h4 | h4 | h4 <;> rw [h4] <;> simp [madeCells, hj, h4, evV] <;> rfl
  · have l := recV_length evV_len (List.replicate n EvZ)
    rw [List.length_replicate] at l
    rw [List.getElem?_eq_none (l := recV evV _) (by rw [l]; omega)]
    simp [madeCells, hj]
theorem evs_put7 (D R : List Ev) (z x : Ev) : ((((recV evV (D ++ z :: R)).set (D.length * 4) (.int .i64 x.1)).set (D.length * 4 + 1) (.int .i64 x.2.1)).set (D.length * 4 + 2) (.string ⟨x.2.2.1.toArray⟩)).set (D.length * 4 + 3) (.string ⟨x.2.2.2.toArray⟩) = recV evV (D ++ x :: R) := by
  have l := recV_length evV_len D
  have c : ∀ y, recV evV (D ++ y :: R) = recV evV D ++ (evV y ++ recV evV R) := fun y => by rw [recV_append, show y :: R = [y] ++ R from rfl, recV_append]; simp [recV]
  rw [c, c, List.set_append_right _ _ (by omega), List.set_append_right _ _ (by omega), List.set_append_right _ _ (by omega), List.set_append_right _ _ (by omega), l, show D.length * 4 - D.length * 4 = 0 by omega, show D.length * 4 + 1 - D.length * 4 = 1 by omega, show D.length * 4 + 2 - D.length * 4 = 2 by omega, show D.length * 4 + 3 - D.length * 4 = 3 by omega]
  rfl
theorem evs_set7 (L : List Ev) (i : Nat) (hi : i < L.length) (x : Ev) : ((((recV evV L).set (i * 4) (.int .i64 x.1)).set (i * 4 + 1) (.int .i64 x.2.1)).set (i * 4 + 2) (.string ⟨x.2.2.1.toArray⟩)).set (i * 4 + 3) (.string ⟨x.2.2.2.toArray⟩) = recV evV (L.set i x) := by
  have e : L = L.take i ++ L[i] :: L.drop (i + 1) := by rw [← List.drop_eq_getElem_cons hi, List.take_append_drop]
  have hl : (L.take i).length = i := by rw [List.length_take]; omega
  have h := evs_put7 (L.take i) (L.drop (i + 1)) L[i] x
  rw [← e, hl] at h
  rw [h, List.set_eq_take_append_cons_drop, if_pos hi]
/-- One event of a row set. -/
def putE (W : World) (g i : Nat) (x : Ev) : World := (((W.setCell ⟨g, i * 4, none⟩ (.int .i64 x.1)).setCell ⟨g, i * 4 + 1, none⟩ (.int .i64 x.2.1)).setCell ⟨g, i * 4 + 2, none⟩ (.string ⟨x.2.2.1.toArray⟩)).setCell ⟨g, i * 4 + 3, none⟩ (.string ⟨x.2.2.2.toArray⟩)
theorem putE_row {W : World} {B e g n cap i : Nat} {L : List Ev} (h : W.ownsRow B e 4 (.slice (some ⟨g, 0, none⟩) n cap) n (recV evV L)) (hi : i < L.length) (x : Ev) : (putE W g i x).ownsRow B e 4 (.slice (some ⟨g, 0, none⟩) n cap) n (recV evV (L.set i x)) := by
  have hs := ((((h.stored (i * 4) (.int .i64 x.1)).1.stored (i * 4 + 1) (.int .i64 x.2.1)).1.stored (i * 4 + 2) (.string ⟨x.2.2.1.toArray⟩)).1.stored (i * 4 + 3) (.string ⟨x.2.2.2.toArray⟩)).1
  rw [evs_set7 L i hi x] at hs
  exact hs
theorem putE_other (W : World) (g i : Nat) (x : Ev) (b : Nat) (hb : b ≠ g) : (putE W g i x).heap[b]? = W.heap[b]? := by
  unfold putE
  rw [Below.heap_setCell _ _ _ b hb, Below.heap_setCell _ _ _ b hb, Below.heap_setCell _ _ _ b hb, Below.heap_setCell _ _ _ b hb]
theorem putE_size (W : World) (g i : Nat) (x : Ev) : (putE W g i x).heap.size = W.heap.size := by simp [putE]
theorem putE_below {B : Nat} {A W : World} (h : Below B A W) (g i : Nat) (x : Ev) (hg : B ≤ g) : Below B A (putE W g i x) :=
  (((h.setCell (p := ⟨g, i * 4, none⟩) hg _).setCell (p := ⟨g, i * 4 + 1, none⟩) hg _).setCell (p := ⟨g, i * 4 + 2, none⟩) hg _).setCell (p := ⟨g, i * 4 + 3, none⟩) hg _
theorem putE_keeps (W : World) (g i : Nat) (x : Ev) : KeepsOthers W (putE W g i x) :=
  (((KeepsOthers.setCell W _ _).trans (KeepsOthers.setCell _ _ _)).trans (KeepsOthers.setCell _ _ _)).trans (KeepsOthers.setCell _ _ _)
/-- The cells of one event of a row. -/
theorem row_cells {W : World} {B e g n cap i : Nat} {L : List Ev} (h : W.ownsRow B e 4 (.slice (some ⟨g, 0, none⟩) n cap) n (recV evV L)) (hn : L.length = n) (hi : i < n) :
    ∃ y : Ev, (W.cell? ⟨g, i * 4, none⟩ = some (.int .i64 y.1) ∧ W.cell? ⟨g, i * 4 + 1, none⟩ = some (.int .i64 y.2.1) ∧ W.cell? ⟨g, i * 4 + 2, none⟩ = some (.string ⟨y.2.2.1.toArray⟩) ∧ W.cell? ⟨g, i * 4 + 3, none⟩ = some (.string ⟨y.2.2.2.toArray⟩)) ∧
      (W.frozen? ⟨g, i * 4, none⟩ = false ∧ W.frozen? ⟨g, i * 4 + 1, none⟩ = false ∧ W.frozen? ⟨g, i * 4 + 2, none⟩ = false ∧ W.frozen? ⟨g, i * 4 + 3, none⟩ = false) := by
  have hi' : i < L.length := by omega
  refine ⟨L[i], ⟨?_, ?_, ?_, ?_⟩, h.frozenAt _, h.frozenAt _, h.frozenAt _, h.frozenAt _⟩
  · have c := h.cellAt (i * 4) (by omega)
    rw [show i * 4 = i * 4 + 0 by omega, recV_get evV_len L i hi' 0 (by omega)] at c
    exact c
  · have c := h.cellAt (i * 4 + 1) (by omega)
    rw [recV_get evV_len L i hi' 1 (by omega)] at c
    exact c
  · have c := h.cellAt (i * 4 + 2) (by omega)
    rw [recV_get evV_len L i hi' 2 (by omega)] at c
    exact c
  · have c := h.cellAt (i * 4 + 3) (by omega)
    rw [recV_get evV_len L i hi' 3 (by omega)] at c
    exact c
theorem boxed_bel {W W' : World} {B b t : Nat} {v : Value} (h : Boxed W b t v) (hb : Below B W W') (hlt : b < B) : Boxed W' b t v := (hb.block b hlt).trans h
theorem sbox_bel {W W' : World} {B b t : Nat} {c : Array Value} (h : SBox W b t c) (hb : Below B W W') (hlt : b < B) : SBox W' b t c := (hb.block b hlt).trans h
theorem owns_bel {B C e k n g m cap : Nat} {xs : List Value} {w w' : World} (h : w.ownsRow B e k (.slice (some ⟨g, 0, none⟩) m cap) n xs) (hb : Below C w w') (hg : g < C) : w'.ownsRow B e k (.slice (some ⟨g, 0, none⟩) m cap) n xs := by
  obtain ⟨h1, h2⟩ := h
  refine ⟨h1, ?_⟩
  rcases h2 with h2 | ⟨g', cap', cur, hv, hbg, hg', r⟩
  · exact .inl h2
  · refine .inr ⟨g', cap', cur, hv, hbg, (hb.block g' ?_).trans hg', r⟩
    simp at hv
    omega
theorem ownFrom_of_below {β : Type} {B : Nat} {I : β → World → Prop} (hs : ∀ s W, I s W → B ≤ W.heap.size) (h : ∀ s W W', I s W → Below B W W' → I s W') : OwnFrom B I :=
  fun s W W' row hi hg hr => h s W W' hi ((Below.refl B W).grown hg (hs s W hi) (fun k e => (hr k e).1))
theorem ownFrom_false {β : Type} (B : Nat) : OwnFrom B (fun (_ : β) (_ : World) => False) := fun _ _ _ _ h _ _ => h
theorem wpListIn_make_full7 {F : Fence} {n : Nat} {P : Program} (w : World) {ops : Array Oper} {rest : List Oper} {o : Oper} {a : Act} {Q : Exit → Act → World → Prop}
    (hg : o.guard = none) (l c : Operand) (t : TypeId) (hop : o.op = Op.makeSlice t l c)
    (base : Nat) (e : TypeId) (i : TypeInfo) (z : Value) (size : Nat) (h1 : P.underlying t = some (.slice e)) (h2 : P.info? e = some i) (h3 : i.zero = some z) (h4 : i.size = size)
    (kl kc : IntKind) (L C : Int) (m : Nat) (hl : a.eval l = .int kl L) (hc : a.eval c = .int kc C) (hL : L = (m : Int)) (hC : C = (m : Int)) (b2 : i.bytes * m ≤ 281474976710656) (b3 : m ≤ maxLen) (b4 : base ≤ w.heap.size)
    (hK : ∀ w', w'.ownsRow base e size (.slice (some ⟨w.heap.size, 0, none⟩) m m) m (madeCells z.cells (m * size)).toList → w.grownBy w' none → wpListIn F n P ops Q rest (a.put o.dst (.slice (some ⟨w.heap.size, 0, none⟩) m m)) w') :
    wpListIn F n P ops Q (o :: rest) a w := by
  refine wpListIn_plain hg fun K hK' => ?_
  obtain ⟨w', hrun, r1, r2⟩ := run_make_full (P := P) w base t e i z size h1 h2 h3 h4 kl kc m b2 b3 b4
  subst hL
  subst hC
  unfold Oper.wpIn
  refine ⟨?_, ?_⟩
  · simp [Oper.about, hop]
  · rw [Oper.semAt_plain F _ _ (by rw [hop]; intro c hc'; cases hc')]
    simp [execOp, hop, hl, hc, hrun, Result.andThen]
    exact hK' _ _ (hK w' r1 r2)
end Go.Proofs.Yteehpkkkagdckaa
namespace Go.Proofs.Yteehpkkkagdckaa
set_option maxRecDepth 100000
open Go.RowKit Go.Shelf
set_option linter.unusedVariables false
/-- A place and its event, as they are handed to a round. -/
abbrev ixV (h : List Ev) (i : Fin h.length) : Array Value := #[.int .i64 (i.val : Int), evW h[i.val]]
/-- What a round keeps: all that lay ahead, and the iterator's own box. -/
def KpE (n b : Nat) (W W' : World) : Prop := Below n W W' ∧ W'.heap[b]? = W.heap[b]?
theorem kpE_t {n b : Nat} {A B C : World} (h : KpE n b A B) (k : KpE n b B C) : KpE n b A C := ⟨h.1.trans k.1, k.2.trans h.2⟩
theorem kpE_b {n b : Nat} {w : World} (hn : n ≤ w.heap.size) (hb : b < w.heap.size) (W : World) (l : Nat) (o o' : Obj) (hl : w.heap.size ≤ l) (h : W.heap[l]? = some o) (h1 : o.isCells = false) (h2 : o.isWalk = false) : KpE n b W (W.putObj l o') :=
  ⟨belowK_b hn W l o o' hl h h1 h2, World.putObj_heap_other (by omega)⟩
theorem boxed_below7 {W W' : World} {B : Nat} {t : TypeId} {v : Value} (h : Boxed W B t v) (b : Below W.heap.size W W') : Boxed W' B t v := (b.block B h.lt).trans h
end Go.Proofs.Yteehpkkkagdckaa
namespace Go.Proofs.Yteehpkkkagdckaa
set_option maxRecDepth 100000
open Go.RowKit Go.Maps
set_option linter.unusedVariables false
theorem grown_below8 {a b : World} (x : Option Nat) (h : Below a.heap.size a b) : a.grownBy b x := ⟨h.os, h.tape, h.output, h.size, fun i hi _ => h.block i hi⟩
theorem law8i : Keyed Try.prog 3 := int_keyed Try.underlying3
theorem law8s : Keyed Try.prog 9 := string_keyed Try.underlying9
theorem zero8i (w : World) : (zeroValue 3).run Try.prog w = .ok (.int .i64 0) w := by kernel_rfl
abbrev I64 (t : Int) : Prop := -9223372036854775808 ≤ t ∧ t ≤ 9223372036854775807
theorem key8i {t : Int} (ht : I64 t) : keyOf Try.prog 3 (.int .i64 t) = some (.int .i64 t) := keyOf_int_mk Try.underlying3 (WalkArith.wf_i64 ht)
theorem key8s {t : List UInt8} (ht : t.length ≤ 9223372036854775807) : keyOf Try.prog 9 (.string ⟨t.toArray⟩) = some (.string t) := by
  have := Go.WideMaps.keyOf_string_mk (P := Try.prog) (k := 9) (s := ⟨t.toArray⟩) Try.underlying9 (by rw [ba_size]; unfold maxLen; omega)
  simpa using this
/-- Numbers by numbers. -/
def IMap (W : World) (b n : Nat) (f : Int → Option Int) : Prop :=
  ∃ D : DataW Unit, W.ownsMap Try.prog 3 (plainElem Try.prog 3) b n D ∧ ∀ t : Int, Maps.has D (.int .i64 t) = (f t).isSome ∧ ∀ k, f t = some k → D.atKey (.int .i64 t) (.lit (.int .i64 0)) = .lit (.int .i64 k)
/-- A set of numbers; of texts. -/
def ISet (W : World) (b n : Nat) (p : Int → Bool) : Prop :=
  ∃ D : DataW Unit, W.ownsMap Try.prog 3 unitElem b n D ∧ ∀ t : Int, Maps.has D (.int .i64 t) = p t
def TSet (W : World) (b n : Nat) (p : List UInt8 → Bool) : Prop :=
  ∃ D : DataW Unit, W.ownsMap Try.prog 9 unitElem b n D ∧ ∀ t : List UInt8, Maps.has D (.string t) = p t
section
variable {W W' : World} {b n m B : Nat} {row : Option Nat}
theorem IMap.kept {f : Int → Option Int} (h : IMap W b n f) (hg : W.grownBy W' row) (hne : some b ≠ row) : IMap W' b n f := by
  obtain ⟨D, h1, h2⟩ := h; exact ⟨D, h1.kept hg hne, h2⟩
theorem ISet.kept {p : Int → Bool} (h : ISet W b n p) (hg : W.grownBy W' row) (hne : some b ≠ row) : ISet W' b n p := by
  obtain ⟨D, h1, h2⟩ := h; exact ⟨D, h1.kept hg hne, h2⟩
theorem TSet.kept {p : List UInt8 → Bool} (h : TSet W b n p) (hg : W.grownBy W' row) (hne : some b ≠ row) : TSet W' b n p := by
  obtain ⟨D, h1, h2⟩ := h; exact ⟨D, h1.kept hg hne, h2⟩
theorem IMap.same {f : Int → Option Int} (h : IMap W b n f) (hb : W'.heap[b]? = W.heap[b]?) : IMap W' b n f := by
  obtain ⟨D, ⟨es, clock, h1, h2⟩, h3⟩ := h; exact ⟨D, ⟨es, clock, hb.trans h1, h2⟩, h3⟩
theorem ISet.same {p : Int → Bool} (h : ISet W b n p) (hb : W'.heap[b]? = W.heap[b]?) : ISet W' b n p := by
  obtain ⟨D, ⟨es, clock, h1, h2⟩, h3⟩ := h; exact ⟨D, ⟨es, clock, hb.trans h1, h2⟩, h3⟩
theorem TSet.same {p : List UInt8 → Bool} (h : TSet W b n p) (hb : W'.heap[b]? = W.heap[b]?) : TSet W' b n p := by
  obtain ⟨D, ⟨es, clock, h1, h2⟩, h3⟩ := h; exact ⟨D, ⟨es, clock, hb.trans h1, h2⟩, h3⟩
theorem IMap.bel {f : Int → Option Int} (h : IMap W b n f) (hb : Below B W W') (hlt : b < B) : IMap W' b n f := h.same (hb.block b hlt)
theorem ISet.bel {p : Int → Bool} (h : ISet W b n p) (hb : Below B W W') (hlt : b < B) : ISet W' b n p := h.same (hb.block b hlt)
theorem TSet.bel {p : List UInt8 → Bool} (h : TSet W b n p) (hb : Below B W W') (hlt : b < B) : TSet W' b n p := h.same (hb.block b hlt)
theorem IMap.lt {f : Int → Option Int} (h : IMap W b n f) : b < W.heap.size := by obtain ⟨D, h1, h2⟩ := h; exact h1.lt
theorem ISet.lt {p : Int → Bool} (h : ISet W b n p) : b < W.heap.size := by obtain ⟨D, h1, h2⟩ := h; exact h1.lt
theorem TSet.lt {p : List UInt8 → Bool} (h : TSet W b n p) : b < W.heap.size := by obtain ⟨D, h1, h2⟩ := h; exact h1.lt
theorem IMap.mono {f : Int → Option Int} (h : IMap W b n f) (hn : n ≤ m) : IMap W b m f := by obtain ⟨D, h1, h2⟩ := h; exact ⟨D, h1.mono hn, h2⟩
theorem ISet.mono {p : Int → Bool} (h : ISet W b n p) (hn : n ≤ m) : ISet W b m p := by obtain ⟨D, h1, h2⟩ := h; exact ⟨D, h1.mono hn, h2⟩
theorem TSet.mono {p : List UInt8 → Bool} (h : TSet W b n p) (hn : n ≤ m) : TSet W b m p := by obtain ⟨D, h1, h2⟩ := h; exact ⟨D, h1.mono hn, h2⟩
theorem IMap.made (w : World) : IMap (w.alloc (.map #[] 0)) w.heap.size 0 (fun _ => none) := ⟨.map [], World.ownsMap_made w _ _ _, fun t => ⟨rfl, fun k h => by cases h⟩⟩
theorem ISet.made (w : World) : ISet (w.alloc (.map #[] 0)) w.heap.size 0 (fun _ => false) := ⟨.map [], World.ownsMap_made w _ _ _, fun t => rfl⟩
theorem TSet.made (w : World) : TSet (w.alloc (.map #[] 0)) w.heap.size 0 (fun _ => false) := ⟨.map [], World.ownsMap_made w _ _ _, fun t => rfl⟩
/-- What is known behind a store. -/
def updI (f : Int → Option Int) (t k : Int) : Int → Option Int := fun u => if u = t then some k else f u
theorem IMap.put {f : Int → Option Int} {D : DataW Unit} (hd : ∀ t : Int, Maps.has D (.int .i64 t) = (f t).isSome ∧ ∀ k, f t = some k → D.atKey (.int .i64 t) (.lit (.int .i64 0)) = .lit (.int .i64 k)) (hm : IsMap D) (t k : Int)
    (h : W.ownsMap Try.prog 3 (plainElem Try.prog 3) b n (D.put (.int .i64 t) (.lit (.int .i64 k)))) : IMap W b n (updI f t k) := by
  refine ⟨_, h, fun u => ?_⟩
  unfold updI
  by_cases hu : u = t
  · subst hu
    rw [if_pos rfl]
    refine ⟨?_, fun c hc => ?_⟩
    · rw [has_put_same hm (show WideAt.IsKeyLit (.int .i64 u) from trivial)]; rfl
    · rw [atKey_put_same hm (show WideAt.IsKeyLit (.int .i64 u) from trivial)]
      simp at hc
      rw [hc]
  · rw [if_neg hu]
    have hne : (Lit.int .i64 u) ≠ Lit.int .i64 t := fun h => hu (by cases h; rfl)
    refine ⟨?_, fun c hc => ?_⟩
    · rw [has_put_other hne]; exact (hd u).1
    · rw [atKey_put_other hne]; exact (hd u).2 c hc
theorem ISet.put {p : Int → Bool} {D : DataW Unit} (hd : ∀ t : Int, Maps.has D (.int .i64 t) = p t) (hm : IsMap D) (t : Int) (h : W.ownsMap Try.prog 3 unitElem b n (D.put (.int .i64 t) (.agg []))) : ISet W b n (fun u => p u || decide (t = u)) := by
  refine ⟨_, h, fun u => ?_⟩
  by_cases hu : u = t
  · subst hu
    rw [has_put_same hm (show WideAt.IsKeyLit (.int .i64 u) from trivial)]
    simp
  · have hne : (Lit.int .i64 u) ≠ Lit.int .i64 t := fun h => hu (by cases h; rfl)
    rw [has_put_other hne, hd u]
    show p u = (p u || decide (t = u))
    rw [decide_eq_false (fun e : t = u => hu e.symm), Bool.or_false]
theorem TSet.put {p : List UInt8 → Bool} {D : DataW Unit} (hd : ∀ t : List UInt8, Maps.has D (.string t) = p t) (hm : IsMap D) (t : List UInt8) (h : W.ownsMap Try.prog 9 unitElem b n (D.put (.string t) (.agg []))) : TSet W b n (fun u => p u || decide (t = u)) := by
  refine ⟨_, h, fun u => ?_⟩
  by_cases hu : u = t
  · subst hu
    rw [has_put_same hm (show WideAt.IsKeyLit (.string u) from trivial)]
    simp
  · have hne : (Lit.string u) ≠ Lit.string t := fun h => hu (by cases h; rfl)
    rw [has_put_other hne, hd u]
    show p u = (p u || decide (t = u))
    rw [decide_eq_false (fun e : t = u => hu e.symm), Bool.or_false]
end
end Go.Proofs.Yteehpkkkagdckaa
namespace Go.Proofs.Yteehpkkkagdckaa
set_option maxRecDepth 100000
open Go.RowKit Go.Shelf Go.Maps
set_option linter.unusedVariables false
theorem owns_turn {W W' : World} {row : Option Nat} {B e k n : Nat} {v : Value} {xs : List Value} (h : W.ownsRow B e k v n xs) (hg : W.grownBy W' row) (hr : ∀ r, row = some r → ∃ o : Obj, W.heap[r]? = some o ∧ o.isCells = false) : W'.ownsRow B e k v n xs := by
  refine h.kept hg ?_
  rcases h.2 with ⟨rfl, _⟩ | ⟨g, cap, cur, rfl, _, hgb, _⟩
  · exact .inl rfl
  · refine .inr (fun e => ?_)
    obtain ⟨o, ho, hc⟩ := hr g (by rw [← e]; rfl)
    rw [hgb] at ho
    cases ho
    cases hc
theorem keeps_row {W W' : World} {B e k n : Nat} {v : Value} {xs : List Value} (h : W.ownsRow B e k v n xs) (hg : W.grownBy W' v.ownBlock) : KeepsOthers W W' :=
  KeepsOthers.of_grownBy hg (fun j o ej hj => by
    rcases h.2 with ⟨rfl, _⟩ | ⟨g, cap, cur, rfl, _, hgb, _⟩
    · simp [Value.ownBlock] at ej
    · obtain rfl : g = j := by simpa [Value.ownBlock] using ej
      rw [hgb] at hj
      cases hj
      rfl)
end Go.Proofs.Yteehpkkkagdckaa
namespace Go.Proofs.Yteehpkkkagdckaa
set_option maxRecDepth 100000
open Go.RowKit
set_option linter.unusedVariables false
/-- What an iterator, called in W, hands to the loop of record l, whatever the loop keeps that stands by turns of what is no cells and lies from W's end on; each round begins with H blocks at least. -/
def SeqStopsW {α : Type} (F : Fence) (n : Nat) (P : Program) (g : Nat) (lb : Array Value) (encs : α → Array Value) (Kp : World → World → Prop) (S Sp : List α → Prop) (N H l : Nat) (W : World) : Prop :=
  ∀ J Jx : List α → World → Prop, OwnFrom W.heap.size J → OwnFrom W.heap.size Jx →
    (∀ pre x V, J pre V → pre.length < N → H ≤ V.heap.size → YieldAt F (n - 1) P l (encs x) V fun e V' => (e = .returned (.bool true) ∧ J (pre ++ [x]) V' ∧ Kp V V' ∧ KeepsFrom W.heap.size V V') ∨ (e = .returned (.bool false) ∧ Jx (pre ++ [x]) V' ∧ KeepsFrom W.heap.size V V')) →
    J [] W → CallsIn F n P g (#[.func (.yield l) #[] #[]] ++ lb) W fun e V => (∃ v, e = .returned v) ∧ ((∃ xs, S xs ∧ J xs V) ∨ ∃ pre, Sp pre ∧ Jx pre V)
theorem keeps_put {B l : Nat} {W : World} (o : Obj) (hl : l < B) : KeepsFrom B W (W.putObj l o) :=
  KeepsFrom.of_grownBy (grownBy_putObj' W l o) (fun j e => by cases e; exact hl)
theorem keeps_far {B B' : Nat} {X Y : World} (h : KeepsFrom B X Y) (hb : B ≤ B') : KeepsFrom B' X Y := ⟨h.size, fun k o hk => h.same k o (by omega)⟩
section
variable {F : Fence} {n : Nat} {P : Program} {w : World}
theorem rangeFunc_C {α : Type} {g : Operand} {ps : Array Tmp} {assign body : Code} {Q : Exit → Act → World → Prop} {a : Act}
    (hro : F.round = none) (h1 : 1 ≤ n) {gf : Nat} {lb : Array Value} (hg : a.eval g = .func (.func gf) #[] lb) (hFg : F.fn gf) (eg : ∀ args w, (callFunc gf args).run P w = .ok (.enter gf args) w)
    {encs : α → Array Value} {Kp : World → World → Prop} {S Sp : List α → Prop} {N H : Nat}
    (hseq : ∀ V, Below w.heap.size w V → V.heap.size = w.heap.size + 1 + 1 → SeqStopsW F (n - 1) P gf lb encs Kp S Sp N H (w.heap.size + 1) V)
    (hKt : ∀ {A B C : World}, Kp A B → Kp B C → Kp A C) (hKb : ∀ (W : World) (o o' : Loop), W.heap[w.heap.size + 1]? = some (.loop o) → Kp W (W.putObj (w.heap.size + 1) (.loop o'))) (hps : ∀ x, (encs x).size = ps.size)
    (I : List α → World → Prop) (Ix : Code → List α → World → Prop) (hI : OwnFrom w.heap.size I) (hIx : ∀ c, OwnFrom w.heap.size (Ix c)) (h0 : I [] w)
    (Ax : α → Act → World → Prop) (hAx : ∀ x a', OwnFrom w.heap.size (fun (_ : Unit) W => Ax x a' W))
    (hassign : ∀ (l : Nat) (pre : List α) (x : α) (W : World) (K : Act → World → Prop), I pre W → H ≤ W.heap.size → (∀ a' W', KeepsFrom w.heap.size W W' → Kp W W' → I pre W' → Ax x a' W' → K a' W') →
      assign.wpIn (F.inRound l) (n - 1 - 1) P (Exit.then K (fun _ _ _ => False)) { tmps := (ps.zip (encs x)).foldl (fun t (p, v) => t.setIfInBounds p v) a.tmps, defers := [] } W)
    (hbody : ∀ (l : Nat) (pre : List α) (x : α) (a' : Act) (W : World), I pre W → H ≤ W.heap.size → Ax x a' W → pre.length < N → body.wpIn (F.inRound l) (n - 1 - 1) P (ownPostG w.heap.size Kp I Ix (pre ++ [x]) W) a' W)
    (hdone : ∀ (D : Nat) (xs : List α) (W : World), w.heap.size ≤ D → S xs → I xs W → W.heap[D]? = some (.deferred (some [])) → Q .normal { a with defers := { target := .collected D, args := #[] } :: a.defers } W)
    (hstop : ∀ (D : Nat) (c : Code) (pre : List α) (W : World), w.heap.size ≤ D → Sp pre → Ix c pre W → W.heap[D]? = some (.deferred (some [])) → c.wpIn F n P Q { a with defers := { target := .collected D, args := #[] } :: a.defers } W) :
    (Code.rangeFunc g ps assign body).wpIn F n P Q a w := by
  refine wpIn_rangeFunc ?_
  intro fn hfn
  rw [hro]
  obtain ⟨R, hR⟩ : ∃ R : LoopState → Option Code → Loop, R = fun st pe => { state := st, pending := pe, fn, tmps := a.tmps, params := ps, assign, body, defers := w.heap.size } := ⟨_, rfl⟩
  obtain ⟨V, hV⟩ : ∃ V, (w.alloc (.deferred (some []))).alloc (.loop (R .ready none)) = V := ⟨_, rfl⟩
  have vs : V.heap.size = w.heap.size + 1 + 1 := by rw [← hV]; simp
  have vl : V.heap[w.heap.size + 1]? = some (.loop (R .ready none)) := by
    have := World.alloc_heap_new (w.alloc (.deferred (some []))) (.loop (R .ready none))
    rw [World.size_alloc] at this
    rw [← hV]; exact this
  have vd : V.heap[w.heap.size]? = some (.deferred (some [])) := by
    rw [← hV]; exact (Below.heap_alloc _ _ _ (by simp)).trans (World.alloc_heap_new w _)
  have vb : Below w.heap.size w V := by rw [← hV]; exact ((Below.refl _ w).alloc (Nat.le_refl _) _).alloc (by simp) _
  have vI : I [] V := by rw [← hV]; exact hI.alloc _ (hI.alloc _ h0)
  refine ⟨w.heap.size + 1, [{ target := .collected w.heap.size, args := #[] }], V, { target := .fn (.func gf) lb, args := #[.func (.yield (w.heap.size + 1)) #[] #[]] }, V, gf, #[.func (.yield (w.heap.size + 1)) #[] #[]] ++ lb, V, ?_, ?_, ?_, ?_, fun _ => h1, ?_⟩
  · rw [← hV, hR]; exact run_enterLoop_outer _ _ _ _ _
  · simp only [resolve, hg]
    simp [go_sem]
  · intro f' hf'; simp [Target.leads] at hf'; subst hf'; exact hFg
  · simp [invoke, go_sem, eg]
  have far : ∀ {A B : World} {row : Option Nat} {k : Nat} {o : Obj}, A.grownBy B row → (∀ r, row = some r → V.heap.size ≤ r ∧ ∃ o : Obj, A.heap[r]? = some o ∧ o.isCells = false) → k < V.heap.size → A.heap[k]? = some o → B.heap[k]? = some o := fun hg' hr hk ho =>
    (hg'.block _ (Array.getElem?_eq_some_iff.1 ho).1 (fun e => by have := (hr _ e.symm).1; omega)).trans ho
  refine (hseq V vb vs (fun pre W => I pre W ∧ W.heap[w.heap.size + 1]? = some (.loop (R .ready none)) ∧ W.heap[w.heap.size]? = some (.deferred (some [])))
    (fun pre W => ∃ c, Ix c pre W ∧ W.heap[w.heap.size + 1]? = some (.loop (R .done (some c))) ∧ W.heap[w.heap.size]? = some (.deferred (some []))) ?ownJ ?ownX ?round ⟨vI, vl, vd⟩).mono ?behind
  case ownJ =>
    intro s A B row hs hg' hr
    exact ⟨hI s A B row hs.1 hg' (fun r e => ⟨by have := (hr r e).1; omega, (hr r e).2⟩), far hg' hr (by omega) hs.2.1, far hg' hr (by omega) hs.2.2⟩
  case ownX =>
    intro s A B row hs hg' hr
    obtain ⟨c, hc, hl, hd⟩ := hs
    exact ⟨c, hIx c s A B row hc hg' (fun r e => ⟨by have := (hr r e).1; omega, (hr r e).2⟩), far hg' hr (by omega) hl, far hg' hr (by omega) hd⟩
  case round =>
    rintro pre x W ⟨hi, hl, hd⟩ hlen hH
    have hy := run_yield (P := P) (args := encs x) hl (by rw [hR]; exact hps x)
    rw [hR] at hy
    refine ⟨fn, _, assign, body, hy, roundIn_of_wpIn hfn (hassign _ pre x W _ hi hH ?_)⟩
    clear hy
    intro a' A kA pA iA xA
    have hlA := kA.same _ _ (by omega) hl rfl
    have hdA := kA.same _ _ (Nat.le_refl _) hd rfl
    have zA : w.heap.size + 1 < A.heap.size := (Array.getElem?_eq_some_iff.1 hlA).1
    refine ⟨_, run_beginRound hlA (by rw [hR]), ?_⟩
    obtain ⟨B, hB⟩ : ∃ B, A.putObj (w.heap.size + 1) (.loop { R .ready none with state := .busy }) = B := ⟨_, rfl⟩
    have zB : B.heap.size = A.heap.size := by rw [← hB]; simp
    have hlB : B.heap[w.heap.size + 1]? = some (.loop { R .ready none with state := .busy }) := by rw [← hB]; exact World.putObj_heap_same zA
    have hdB : B.heap[w.heap.size]? = some (.deferred (some [])) := by rw [← hB]; exact (World.putObj_heap_other (by omega)).trans hdA
    have iB : I pre B := by rw [← hB]; exact hI.putObj _ iA (by omega) hlA rfl
    have xB : Ax x a' B := by rw [← hB]; exact (hAx x a').putObj (s := ()) _ xA (by omega) hlA rfl
    have kB : KeepsFrom V.heap.size W B := (keeps_far kA (by omega)).trans (by rw [← hB]; exact keeps_put _ (by omega))
    have pB : Kp W B := hKt pA (by rw [← hB]; exact hKb _ _ _ hlA)
    rw [hB]
    refine wpIn_mono (hbody _ pre x a' B iB (by rw [zB]; exact Nat.le_trans hH kA.size) xB hlen) ?_
    have fin : ∀ (jump : Option Code) (C : World), KeepsFrom w.heap.size B C →
        (Instr.endRound (w.heap.size + 1) jump).run P C = .ok (.bool jump.isNone) (C.putObj (w.heap.size + 1) (.loop (R (if jump.isNone then .ready else .done) jump))) ∧
        C.heap[w.heap.size + 1]? = some (.loop { R .ready none with state := .busy }) ∧
        (C.putObj (w.heap.size + 1) (.loop (R (if jump.isNone then .ready else .done) jump))).heap[w.heap.size + 1]? = some (.loop (R (if jump.isNone then .ready else .done) jump)) ∧
        (C.putObj (w.heap.size + 1) (.loop (R (if jump.isNone then .ready else .done) jump))).heap[w.heap.size]? = some (.deferred (some [])) := fun jump C kC => by
      have hlC := kC.same _ _ (by omega) hlB rfl
      have e := run_endRound (P := P) jump hlC
      rw [hR] at e ⊢
      exact ⟨e, by rw [hR] at hlC; exact hlC, World.putObj_heap_same (Array.getElem?_eq_some_iff.1 hlC).1, (World.putObj_heap_other (by omega)).trans (kC.same _ _ (Nat.le_refl _) hdB rfl)⟩
    rintro e a3 C hp
    cases e with
    | normal =>
      obtain ⟨kC, pC, iC⟩ := hp
      obtain ⟨e1, e2, e3, e4⟩ := fin none C kC
      exact ⟨_, _, e1, .inl ⟨rfl, ⟨hI.putObj _ iC (by omega) e2 rfl, e3, e4⟩, hKt pB (hKt pC (hKb _ _ _ e2)), kB.trans ((keeps_far kC (by omega)).trans (keeps_put _ (by omega)))⟩⟩
    | ret =>
      obtain ⟨kC, iC⟩ := hp
      obtain ⟨e1, e2, e3, e4⟩ := fin (some .ret) C kC
      exact ⟨_, _, e1, .inr ⟨rfl, ⟨.ret, (hIx _).putObj _ iC (by omega) e2 rfl, e3, e4⟩, kB.trans ((keeps_far kC (by omega)).trans (keeps_put _ (by omega)))⟩⟩
    | exit id =>
      obtain ⟨kC, iC⟩ := hp
      obtain ⟨e1, e2, e3, e4⟩ := fin (some (.exit id)) C kC
      exact ⟨_, _, e1, .inr ⟨rfl, ⟨.exit id, (hIx _).putObj _ iC (by omega) e2 rfl, e3, e4⟩, kB.trans ((keeps_far kC (by omega)).trans (keeps_put _ (by omega)))⟩⟩
    | goto t =>
      obtain ⟨kC, iC⟩ := hp
      obtain ⟨e1, e2, e3, e4⟩ := fin (some (.goto t)) C kC
      exact ⟨_, _, e1, .inr ⟨rfl, ⟨.goto t, (hIx _).putObj _ iC (by omega) e2 rfl, e3, e4⟩, kB.trans ((keeps_far kC (by omega)).trans (keeps_put _ (by omega)))⟩⟩
    | panic ch => exact hp.elim
    | outgrown => exact hp.elim
  case behind =>
    rintro e W2 ⟨⟨v, rfl⟩, (⟨xs, hS, hi, hl, hd⟩ | ⟨pre, hSp, c, hi, hl, hd⟩)⟩
    · exact ⟨none, _, by have := run_endLoop (P := P) hl (by rw [hR]; simp); rw [hR] at this; exact this, hdone _ xs _ (Nat.le_refl _) hS (hI.putObj _ hi (by omega) hl rfl) ((World.putObj_heap_other (by omega)).trans hd)⟩
    · exact ⟨some c, _, by have := run_endLoop (P := P) hl (by rw [hR]; simp); rw [hR] at this; exact this, hstop _ c pre _ (Nat.le_refl _) hSp ((hIx c).putObj _ hi (by omega) hl rfl) ((World.putObj_heap_other (by omega)).trans hd)⟩
theorem callsIn_depth {n : Nat} (m : Nat) {P : Program} {f : FuncId} {args : Array Value} {w : World} {R : Ending → World → Prop} (h : CallsIn Fence.wide m P f args w R) : CallsIn Fence.wide n P f args w R := callsIn_wide.2 (callsIn_wide.1 h)
/-- Where no depth is asked a round's figures are all one. -/
theorem yield_any {m : Nat} (m' : Nat) {l : Nat} {args : Array Value} {W : World} {R : Ending → World → Prop} (h : YieldAt Fence.wide m P l args W R) : YieldAt Fence.wide m' P l args W R := by
  obtain ⟨fn, tmps, assign, body, hy, hR⟩ := h
  exact ⟨fn, tmps, assign, body, hy, hR.1, fun c cs _ => hR.2 c cs (fun d h => by cases h)⟩
end
end Go.Proofs.Yteehpkkkagdckaa
