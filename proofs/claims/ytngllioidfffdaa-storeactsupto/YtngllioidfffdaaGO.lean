/-
  Events among the arguments, opened: one by value, a slice of them.
  A slice of texts among the arguments, opened.
  A slice of texts among the arguments, or in a struct's field, opened as rows of texts.
  Tapes, what is done to them, and what TapeActs is asked of, opened.
  Stores among the arguments, opened.
-/
import Derived.Test.YtngllioidfffdaaProg
import Derived.Test.YtngllioidfffdaaGD
import Derived.WalkKit
import Derived.ProofKit
import Derived.Test.YtngllioidfffdaaGB
import Derived.SizedLaws
import Derived.SliceStrings
import Derived.Test.YtngllioidfffdaaGU
import Derived.Test.YtngllioidfffdaaRows
import Derived.Test.YtngllioidfffdaaGV
namespace Go.Proofs.Ytngllioidfffdaa
set_option maxRecDepth 100000
open Go.ChangeShapes Go.WideShapes Go.ChangeAt Go.RowKit
set_option linter.unusedVariables false
theorem ev_cells {H : Type} {enc : TypeId × Value → H} {W : World} {m : Nat} {c : Value} {d : DataW H} {p : List MemPlace}
    (hf : DataW.trod enc Try.prog W 0 (fun _ => true) true m 24 [c] = some (d, p)) (hw : (DataW.weights Try.prog 24 d).all (· ≤ reachBytes) = true) : ∃ L : List Ev, IsEvs W c L ∧ (∀ x ∈ L, goodE x) ∧ L.length * 48 ≤ reachBytes :=
  rec_cells goodE 48 Try.underlying24 (by kernel_rfl) (by omega) (by kernel_rfl) (by omega)
    (fun n cs' d' p' hl h hw' => ev_elem Try.underlying30 (by kernel_rfl) (by kernel_rfl) (by kernel_rfl) (by kernel_rfl) (by kernel_rfl) n cs' d' p' hl h hw') hf hw
theorem ev_arg {H : Type} {enc : TypeId × Value → H} {W : World} {v : Value} {d : DataW H} {p : List MemPlace} (hv : ∃ a n c, v = .slice a n c)
    (h : DataW.Trod enc Try.prog W 0 (fun _ => true) true 24 v d p) (hw : (DataW.weights Try.prog 24 d).all (· ≤ reachBytes) = true) : ∃ L : List Ev, IsEvs W v L ∧ (∀ x ∈ L, goodE x) ∧ L.length * 48 ≤ reachBytes := by
  obtain ⟨a, n, c, rfl⟩ := hv
  obtain ⟨fuel, hf⟩ := h
  exact ev_cells (by simpa [Value.cells] using hf) hw
/-- An event by value. -/
theorem ev_val {H : Type} {enc : TypeId × Value → H} {W : World} {r : Reach} {b0 : Nat} {v : Value} {d : DataW H} {p : List MemPlace} (hv : Value.okWide Try.prog W r b0 30 v)
    (h : DataW.Trod enc Try.prog W 0 (fun _ => true) true 30 v d p) (hw : (DataW.weights Try.prog 30 d).all (· ≤ reachBytes) = true) : ∃ x : Ev, v = .agg #[.int .i64 x.1, .int .i64 x.2.1, .string ⟨x.2.2.1.toArray⟩, .string ⟨x.2.2.2.toArray⟩] ∧ goodE x := by
  obtain ⟨cs, rfl, hsz⟩ := okWide_struct Try.underlying30 hv
  obtain ⟨fuel, hf⟩ := h
  have hc : Try.prog.cellsOf 30 = 4 := by kernel_rfl
  obtain ⟨x, hx, hg⟩ := ev_elem Try.underlying30 (by kernel_rfl) (by kernel_rfl) (by kernel_rfl) (by kernel_rfl) (by kernel_rfl) fuel cs.toList d p (by rw [Array.length_toList, hsz, hc]) (by simpa [Value.cells] using hf) hw
  refine ⟨x, ?_, hg⟩
  have : cs = (evV x).toArray := by rw [← hx]
  rw [this]
  rfl
end Go.Proofs.Ytngllioidfffdaa
namespace Go.Proofs.Ytngllioidfffdaa
set_option maxRecDepth 100000
open Go.ChangeShapes Go.WideShapes Go.ChangeAt Go.RowKit

theorem weights_strs {H : Type} (ss : List ByteArray) (h : (DataW.weightsAll Try.prog 9 (strs (H := H) ss)).all (· ≤ reachBytes) = true) : ∀ s ∈ ss, s.size ≤ 140737488351232 := by
  induction ss with
  | nil => simp
  | cons a r ih =>
    simp only [strs, List.map_cons, DataW.weightsAll, DataW.weights, List.cons_append, List.nil_append, List.all_cons, Bool.and_eq_true, decide_eq_true_eq] at h
    intro s hs
    rcases List.mem_cons.1 hs with rfl | hs
    · have := h.1; simp [reachBytes] at this; exact this
    · exact ih h.2 s hs
theorem strs_of {H : Type} {enc : TypeId × Value → H} {W : World} {a : Option Addr} {len cap : Nat} {d : DataW H} {p : List MemPlace}
    (h : DataW.Trod enc Try.prog W 0 (fun _ => true) true 26 (.slice a len cap) d p) (hw : (DataW.weights Try.prog 26 d).all (· ≤ reachBytes) = true) : ∃ ss, IsStrs W a len ss := by
  obtain ⟨fuel, hf⟩ := h
  rcases open_strings Try.underlying26 Try.underlying9 (by kernel_rfl) hf with ⟨hcs, _⟩ | ⟨x, l, c, ss, hcs, _, hl, hm, hz, hx, hcell, hws⟩
  · simp [Value.cells] at hcs
    obtain ⟨rfl, rfl, rfl⟩ := hcs
    exact ⟨[], rfl, by simp, by omega, .inl rfl⟩
  · simp [Value.cells] at hcs
    obtain ⟨rfl, rfl, rfl⟩ := hcs
    simp only [if_true] at hz
    have hd : d = .slice (strs (ss.take len)) (strs (ss.drop len)) := congrArg Prod.fst hx
    subst hd
    simp only [DataW.weights, Try.underlying26, List.all_cons, Bool.and_eq_true, decide_eq_true_eq, List.all_append] at hw
    obtain ⟨hw1, hw2, hw3⟩ := hw
    have hb : Try.prog.bytesOf 9 = 16 := by kernel_rfl
    rw [hb] at hw1
    simp only [strs, List.length_map, List.length_take, List.length_drop, reachBytes] at hw1
    have hsz := weights_strs _ hw2
    refine ⟨(ss.take len).map (fun s => s.data.toList), by simp; omega, ?_, by omega, ?_⟩
    · intro s hs
      obtain ⟨y, hy, rfl⟩ := List.mem_map.1 hs
      have := hsz y hy
      simpa using this
    · by_cases h0 : len = 0
      · exact .inl h0
      · right
        have hc0 := hcell 0 (by omega)
        obtain ⟨b, off, spot⟩ := x
        have hspot : spot = none := by simpa [Addr.add] using World.cell?_spot hc0
        subst hspot
        have hlt : b < W.heap.size := by
          rcases Nat.lt_or_ge b W.heap.size with h' | h'
          · exact h'
          · simp [World.cell?, Addr.add, Array.getElem?_eq_none h'] at hc0
        refine ⟨b, off, rfl, hlt, fun i hi => ?_⟩
        have hi' : i < len := by simp at hi; omega
        have := hcell i (by omega)
        have ea : (⟨b, off, none⟩ : Addr).add i = ⟨b, off + i, none⟩ := by unfold Addr.add; split <;> simp_all
        rw [ea] at this
        rw [this]
        have hi2 : i < ss.length := by omega
        simp [List.getD, List.getElem?_eq_getElem hi2]
theorem strs_cell {H : Type} {enc : TypeId × Value → H} {W : World} {m : Nat} {c : Value} {y : DataW H × List MemPlace}
    (h : DataW.trod enc Try.prog W 0 (fun _ => true) true m 26 [c] = some y) (hw : (DataW.weights Try.prog 26 y.1).all (· ≤ reachBytes) = true) : ∃ a n cap ss, c = .slice a n cap ∧ IsStrs W a n ss := by
  have hc : ∃ a n cap, c = .slice a n cap := by
    rcases open_strings Try.underlying26 Try.underlying9 (by kernel_rfl) h with ⟨hcs, _⟩ | ⟨x, l, cc, ss, hcs, _⟩
    · simp at hcs; exact ⟨_, _, _, hcs⟩
    · simp at hcs; exact ⟨_, _, _, hcs⟩
  obtain ⟨a, n, cap, rfl⟩ := hc
  obtain ⟨ss, hss⟩ := strs_of (enc := enc) (W := W) (a := a) (len := n) (cap := cap) (d := y.1) (p := y.2) ⟨m, by simpa [Value.cells] using h⟩ hw
  exact ⟨a, n, cap, ss, rfl, hss⟩
end Go.Proofs.Ytngllioidfffdaa
namespace Go.Proofs.Ytngllioidfffdaa
set_option maxRecDepth 100000
open Go.ChangeShapes Go.WideShapes Go.ChangeAt Go.RowKit
set_option linter.unusedVariables false
theorem txt_cells {H : Type} {enc : TypeId × Value → H} {W : World} {m : Nat} {c : Value} {d : DataW H} {p : List MemPlace}
    (hf : DataW.trod enc Try.prog W 0 (fun _ => true) true m 26 [c] = some (d, p)) (hw : (DataW.weights Try.prog 26 d).all (· ≤ reachBytes) = true) : ∃ ss : List (List UInt8), IsTxt W c ss ∧ ∀ s ∈ ss, s.length ≤ 140737488351232 := by
  rcases open_strings Try.underlying26 Try.underlying9 (by kernel_rfl) hf with ⟨hcs, _⟩ | ⟨x, len, cap, ss, hcs, _, hl, hm, hz, hx, hcell, hws⟩
  · simp at hcs
    subst hcs
    exact ⟨[], IsTxt.nil W, by simp⟩
  · simp at hcs
    subst hcs
    simp only [if_true] at hz
    have hd : d = .slice (strs (ss.take len)) (strs (ss.drop len)) := congrArg Prod.fst hx
    subst hd
    simp only [DataW.weights, Try.underlying26, List.all_cons, Bool.and_eq_true, decide_eq_true_eq, List.all_append] at hw
    obtain ⟨hw1, hw2, hw3⟩ := hw
    have hb : Try.prog.bytesOf 9 = 16 := by kernel_rfl
    rw [hb] at hw1
    simp only [strs, List.length_map, List.length_take, List.length_drop, reachBytes] at hw1
    have hsz := weights_strs _ hw2
    have hbd : ∀ s ∈ (ss.take len).map (fun s => s.data.toList), s.length ≤ 140737488351232 := by
      intro s hs
      obtain ⟨y, hy, rfl⟩ := List.mem_map.1 hs
      have := hsz y hy
      simpa using this
    refine ⟨(ss.take len).map (fun s => s.data.toList), ⟨_, _, _, rfl, by simp; omega, hl, by unfold maxLen at hm; omega, by omega, fun s hs => by have := hbd s hs; omega, ?_⟩, hbd⟩
    by_cases h0 : len = 0
    · exact .inl h0
    · right
      have hc0 := hcell 0 (by omega)
      obtain ⟨b, off, spot⟩ := x
      have hspot : spot = none := by simpa [Addr.add] using World.cell?_spot hc0
      subst hspot
      have hlt : b < W.heap.size := by
        rcases Nat.lt_or_ge b W.heap.size with h' | h'
        · exact h'
        · simp [World.cell?, Addr.add, Array.getElem?_eq_none h'] at hc0
      refine ⟨b, off, rfl, hlt, fun i hi => ?_⟩
      have hi' : i < len := by simp at hi; omega
      have := hcell i (by omega)
      have ea : (⟨b, off, none⟩ : Addr).add i = ⟨b, off + i, none⟩ := by unfold Addr.add; split <;> simp_all
      rw [ea] at this
      rw [this]
      have hi2 : i < ss.length := by omega
      simp [List.getD, List.getElem?_eq_getElem hi2]
theorem txt_arg {H : Type} {enc : TypeId × Value → H} {W : World} {v : Value} {d : DataW H} {p : List MemPlace} (hv : ∃ a n c, v = .slice a n c)
    (h : DataW.Trod enc Try.prog W 0 (fun _ => true) true 26 v d p) (hw : (DataW.weights Try.prog 26 d).all (· ≤ reachBytes) = true) : ∃ ss : List (List UInt8), IsTxt W v ss ∧ ∀ s ∈ ss, s.length ≤ 140737488351232 := by
  obtain ⟨a, n, c, rfl⟩ := hv
  obtain ⟨fuel, hf⟩ := h
  exact txt_cells (by simpa [Value.cells] using hf) hw
end Go.Proofs.Ytngllioidfffdaa
namespace Go.Proofs.Ytngllioidfffdaa
set_option maxRecDepth 100000
open Go.ChangeShapes Go.WideShapes Go.ChangeAt Go.RowKit
set_option linter.unusedVariables false
/-- What a tape is read as. -/
abbrev tpD {H : Type} (s p : List UInt8) (r f : Int) (o : Bool) : DataW H := .agg [.lit (.string s), .lit (.string p), .lit (.int .i64 r), .lit (.int .i64 f), .lit (.bool o)]
theorem tp_elem {H : Type} {enc : TypeId × Value → H} {W : World} (n : Nat) (cs' : List Value) (d' : DataW H) (p' : List MemPlace) (hl : cs'.length = 5) (h : DataW.trod enc Try.prog W 0 (fun _ => true) true n 23 cs' = some (d', p')) :
    ∃ s p r f o, cs' = [.string ⟨s.toArray⟩, .string ⟨p.toArray⟩, .int .i64 r, .int .i64 f, .bool o] ∧ d' = tpD s p r f o ∧ (-9223372036854775808 ≤ r ∧ r ≤ 9223372036854775807) ∧ (-9223372036854775808 ≤ f ∧ f ≤ 9223372036854775807) := by
  have hu := Try.underlying23
  obtain ⟨xs, k, _, hx, hcl, hlen, hel⟩ := DataW.trod_struct hu h
  have hlen' : xs.length = 5 := hlen
  match xs, hlen', cs', hl with
  | [y0, y1, y2, y3, y4], _, [c0, c1, c2, c3, c4], _ =>
    have k3 : Try.prog.cellsOf 3 = 1 := by kernel_rfl
    have k4 : Try.prog.cellsOf 4 = 1 := by kernel_rfl
    have k9 : Try.prog.cellsOf 9 = 1 := by kernel_rfl
    have g0 := hel 0 _ rfl
    have g1 := hel 1 _ rfl
    have g2 := hel 2 _ rfl
    have g3 := hel 3 _ rfl
    have g4 := hel 4 _ rfl
    simp [k3, k4, k9] at g0 g1 g2 g3 g4
    obtain ⟨s0, e0, rfl, _⟩ := DataW.trod_string Try.underlying9 g0
    obtain ⟨s1, e1, rfl, _⟩ := DataW.trod_string Try.underlying9 g1
    obtain ⟨n2, e2, rfl, w2⟩ := DataW.trod_int Try.underlying3 g2
    obtain ⟨n3, e3, rfl, w3⟩ := DataW.trod_int Try.underlying3 g3
    obtain ⟨b4, e4, rfl⟩ := DataW.trod_bool Try.underlying4 g4
    have hd := congrArg Prod.fst hx
    simp at hd
    subst hd
    simp at e0 e1 e2 e3 e4
    subst e0 e1 e2 e3 e4
    exact ⟨s0.data.toList, s1.data.toList, n2, n3, b4, rfl, rfl, i64_wf w2, i64_wf w3⟩
theorem tp_val {H : Type} {enc : TypeId × Value → H} {W : World} {rc : Reach} {b0 : Nat} {v : Value} {d : DataW H} {q : List MemPlace} (hv : Value.okWide Try.prog W rc b0 23 v)
    (h : DataW.Trod enc Try.prog W 0 (fun _ => true) true 23 v d q) :
    ∃ s p r f o, v = tpV (s, p, r, f, o) ∧ d = tpD s p r f o ∧ (-9223372036854775808 ≤ r ∧ r ≤ 9223372036854775807) ∧ (-9223372036854775808 ≤ f ∧ f ≤ 9223372036854775807) := by
  obtain ⟨cs, rfl, hsz⟩ := okWide_struct Try.underlying23 hv
  obtain ⟨fuel, hf⟩ := h
  have hc : Try.prog.cellsOf 23 = 5 := by kernel_rfl
  obtain ⟨s, p, r, f, o, hx, hd, w1, w2⟩ := tp_elem fuel cs.toList d q (by rw [Array.length_toList, hsz, hc]) (by simpa [Value.cells] using hf)
  refine ⟨s, p, r, f, o, ?_, hd, w1, w2⟩
  have : cs = #[.string ⟨s.toArray⟩, .string ⟨p.toArray⟩, .int .i64 r, .int .i64 f, .bool o] := by rw [← Array.toArray_toList (xs := cs), hx]
  rw [this]
  rfl
theorem cells8 {α : Type} {a : Array α} (h : a.size = 8) : ∃ c0 c1 c2 c3 c4 c5 c6 c7, a = #[c0, c1, c2, c3, c4, c5, c6, c7] := by
  obtain ⟨l⟩ := a
  match l, h with
  | [c0, c1, c2, c3, c4, c5, c6, c7], _ => exact ⟨c0, c1, c2, c3, c4, c5, c6, c7, rfl⟩
end Go.Proofs.Ytngllioidfffdaa
namespace Go.Proofs.Ytngllioidfffdaa
set_option maxRecDepth 100000
open Go.ChangeShapes Go.WideShapes Go.ChangeAt Go.RowKit
set_option linter.unusedVariables false
theorem shp_cell17 {H : Type} {enc : TypeId × Value → H} {W : World} {t e : TypeId} (ht : Try.prog.underlying t = some (.slice e)) {m : Nat} {c : Value} {d : DataW H} {p : List MemPlace}
    (hf : DataW.trod enc Try.prog W 0 (fun _ => true) true m t [c] = some (d, p)) : Shp17 c := by
  rcases DataW.trod_slice ht hf with ⟨hcs, _⟩ | ⟨a', len, cap, _, _, _, _, hcs, _⟩
  · simp at hcs
    exact .inl hcs
  · simp at hcs
    exact .inr ⟨_, _, _, hcs⟩
theorem hs_cells17 {H : Type} {enc : TypeId × Value → H} {W : World} {m : Nat} {c : Value} {d : DataW H} {p : List MemPlace}
    (hf : DataW.trod enc Try.prog W 0 (fun _ => true) true m 25 [c] = some (d, p)) (hw : (DataW.weights Try.prog 25 d).all (· ≤ reachBytes) = true) : ∃ (H' : List Value) (L : List (List Ev)), IsRec 1 hsV W c H' ∧ HsOf W H' L := by
  obtain ⟨H', h1, h2, _⟩ := rec_cells (sz := 1) (rec := hsV) (fun v => ∃ h, IsEvs W v h ∧ Shp17 v) 24 Try.underlying25 (by kernel_rfl) (by omega) (by kernel_rfl) (by omega)
    (fun n cs' d' p' hl h hw' => by
      match cs', hl with
      | [c0], _ =>
        obtain ⟨L, hL, _, _⟩ := ev_cells (d := d') (p := p') h hw'
        exact ⟨c0, rfl, L, hL, shp_cell17 Try.underlying24 h⟩) hf hw
  obtain ⟨L, hl, hL⟩ := list_of (fun i h => ∀ v, H'[i]? = some v → IsEvs W v h ∧ Shp17 v) H'.length (fun i hi => by
    obtain ⟨h, g1, g2⟩ := h2 H'[i] (List.getElem_mem hi)
    exact ⟨h, fun v hv => by rw [List.getElem?_eq_getElem hi] at hv; cases hv; exact ⟨g1, g2⟩⟩)
  exact ⟨H', L, h1, ⟨hl.symm, fun i v x hv hx => by
    obtain ⟨hi, rfl⟩ := List.getElem?_eq_some_iff.1 hx
    exact hL i hi v hv⟩⟩
theorem sto_elem17 {H : Type} {enc : TypeId × Value → H} {W : World} (n : Nat) (cs' : List Value) (d' : DataW H) (p' : List MemPlace) (hl : cs'.length = 8) (h : DataW.trod enc Try.prog W 0 (fun _ => true) true n 28 cs' = some (d', p')) (hw : (DataW.weights Try.prog 28 d').all (· ≤ reachBytes) = true) :
    ∃ s p r f o vo vh vc H' x, cs' = (stC (s, p, r, f, o) vo vh vc).toList ∧ StIn W vo vh vc H' x ∧ ((-9223372036854775808 ≤ r ∧ r ≤ 9223372036854775807) ∧ (-9223372036854775808 ≤ f ∧ f ≤ 9223372036854775807) ∧ s.length ≤ 140737488351232 ∧ p.length ≤ 140737488351232) ∧ s.length + p.length ≤ Rows.uptoBulk d' := by
  have hu := Try.underlying28
  obtain ⟨xs, k, _, hx, hcl, hlen, hel⟩ := DataW.trod_struct hu h
  have hlen' : xs.length = 4 := hlen
  match xs, hlen', cs', hl with
  | [y0, y1, y2, y3], _, [c0, c1, c2, c3, c4, c5, c6, c7], _ =>
    have kT : Try.prog.cellsOf 23 = 5 := by kernel_rfl
    have k5 : Try.prog.cellsOf 24 = 1 := by kernel_rfl
    have k6 : Try.prog.cellsOf 25 = 1 := by kernel_rfl
    have k7 : Try.prog.cellsOf 26 = 1 := by kernel_rfl
    have g0 := hel 0 _ rfl
    have g1 := hel 1 _ rfl
    have g2 := hel 2 _ rfl
    have g3 := hel 3 _ rfl
    simp [kT, k5, k6, k7] at g0 g1 g2 g3
    have hd := congrArg Prod.fst hx
    simp at hd
    subst hd
    simp only [DataW.weights, hu, List.map_cons, List.map_nil] at hw
    simp only [DataW.weightsEach, List.append_nil, List.all_append, Bool.and_eq_true] at hw
    obtain ⟨s, p, r, f, o, ht, hdt, w0, w1⟩ := tp_elem k [c0, c1, c2, c3, c4] y0.1 y0.2 rfl g0
    obtain ⟨L, hL, _, _⟩ := ev_cells (d := y1.1) (p := y1.2) g1 hw.2.1
    have sL := shp_cell17 (d := y1.1) (p := y1.2) Try.underlying24 g1
    obtain ⟨H', M, hM, oM⟩ := hs_cells17 (d := y2.1) (p := y2.2) g2 hw.2.2.1
    have sM := shp_cell17 (d := y2.1) (p := y2.2) Try.underlying25 g2
    obtain ⟨C, hC, _⟩ := txt_cells (d := y3.1) (p := y3.2) g3 hw.2.2.2
    have sC := shp_cell17 (d := y3.1) (p := y3.2) Try.underlying26 g3
    simp only [List.cons.injEq, and_true] at ht
    obtain ⟨rfl, rfl, rfl, rfl, rfl⟩ := ht
    have hwt := hw.1
    rw [hdt] at hwt
    simp only [DataW.weights, Try.underlying23, List.map_cons, List.map_nil] at hwt
    simp only [DataW.weightsEach, DataW.weights, List.append_nil, List.all_append, List.all_cons, List.all_nil, Bool.and_true, Bool.and_eq_true] at hwt
    have z0 : s.length ≤ 140737488351232 := of_decide_eq_true hwt.1
    have z1 : p.length ≤ 140737488351232 := of_decide_eq_true hwt.2
    refine ⟨s, p, r, f, o, c5, c6, c7, H', (L, M, C), rfl, ⟨hL, hM, oM, hC, sL, sM, sC⟩, ⟨w0, w1, z0, z1⟩, ?_⟩
    rw [hdt]
    simp only [Rows.uptoBulk, Rows.uptoBulkAll]
    omega
theorem sto_val17 {H : Type} {enc : TypeId × Value → H} {W : World} {rc : Reach} {b0 : Nat} {v : Value} {d : DataW H} {q : List MemPlace} (hv : Value.okWide Try.prog W rc b0 28 v)
    (h : DataW.Trod enc Try.prog W 0 (fun _ => true) true 28 v d q) (hw : (DataW.weights Try.prog 28 d).all (· ≤ reachBytes) = true) :
    ∃ s p r f o vo vh vc H' x, v = .agg (stC (s, p, r, f, o) vo vh vc) ∧ StIn W vo vh vc H' x ∧ ((-9223372036854775808 ≤ r ∧ r ≤ 9223372036854775807) ∧ (-9223372036854775808 ≤ f ∧ f ≤ 9223372036854775807) ∧ s.length ≤ 140737488351232 ∧ p.length ≤ 140737488351232) ∧ s.length + p.length ≤ Rows.uptoBulk d := by
  obtain ⟨cs, rfl, hsz⟩ := okWide_struct Try.underlying28 hv
  obtain ⟨fuel, hf⟩ := h
  have hc : Try.prog.cellsOf 28 = 8 := by kernel_rfl
  obtain ⟨s, p, r, f, o, vo, vh, vc, H', x, hx, h1, h2, h3⟩ := sto_elem17 fuel cs.toList d q (by rw [Array.length_toList, hsz, hc]) (by simpa [Value.cells] using hf) hw
  refine ⟨s, p, r, f, o, vo, vh, vc, H', x, ?_, h1, h2, h3⟩
  have : cs = stC (s, p, r, f, o) vo vh vc := Array.toList_inj.1 hx
  rw [this]
end Go.Proofs.Ytngllioidfffdaa
