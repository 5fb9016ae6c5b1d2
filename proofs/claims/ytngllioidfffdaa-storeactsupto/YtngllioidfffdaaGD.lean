/-
  Rows of records (several cells an element), read, cut, opened and grown: of no program.
  Rows of events (kind, transaction, key, value: four cells an element): of no program.
  Histories as bytes and back, in lists; what a function answers that makes texts or events: of no program.
  Events as values, rows of them made; small facts of memory: of no program but for the event's type.
  Small facts for rounds of a range over a function: of no program.
  Beginnings of the row of all places: of no program.
  What a loop over events is handed, and what its rounds keep: of no program.
  Small facts for loops over events: rows of events made and set, what lies below; of no program.
  Maps and sets that a call has made, with whole numbers or texts for keys: of no program but for the types.
  A row that was made, kept by turns of what is no cells: of no program.
  The cells of a row of records, as what is appended; an empty row, made: of no program.
-/
import Derived.Test.YtngllioidfffdaaGB
import Derived.Deep.Slices
import Derived.Deep.Fields
import Derived.Lib.Builder
import Derived.Test.YtngllioidfffdaaGA
import Derived.ChangeArms
import Derived.Test.YtngllioidfffdaaProg
import Derived.Test.YtngllioidfffdaaGC
import Derived.OwnWalk
import Derived.Lib.BufferWrite
import Derived.RangeFuncNested
import Derived.RangeFuncBound
import Derived.RangeFuncCalls
import Derived.RangeFuncLeaves
import Derived.RangeFuncBox
import Derived.Shelf.Abstract
import Derived.Shelf.RegionOpen
import Derived.OwnWalkIn
import Derived.TacticsInMore
import Derived.LoopNIn
import Derived.LoopIn
import Derived.Maps.OwnSet
import Derived.Maps.OwnOps
import Derived.Maps.OwnIn
namespace Go.Proofs.Ytngllioidfffdaa
set_option maxRecDepth 100000
open Go.RowKit Go.ChangeShapes Go.WideShapes
set_option linter.unusedVariables false
section
variable {α : Type}
theorem take_next_eq {l m : List α} {k : Nat} (h1 : k < l.length) (h2 : k < m.length) (h : l.take k = m.take k) (he : l[k] = m[k]) : l.take (k + 1) = m.take (k + 1) := by
  rw [List.take_succ_eq_append_getElem h1, List.take_succ_eq_append_getElem h2, h, he]
theorem ne_by_at {l m : List α} {k : Nat} (h1 : k < l.length) (h2 : k < m.length) (he : ¬ l[k] = m[k]) : ¬ l = m := fun h => by subst h; exact he rfl
/-- A slice of records: each element's cells are enc's. -/
def IsRec (sz : Nat) (enc : α → List Value) (w : World) (v : Value) (L : List α) : Prop :=
  ∃ a n cap, v = .slice a n cap ∧ L.length = n ∧ n ≤ cap ∧ cap ≤ 9223372036854775807 ∧ n ≤ 140737488351232 ∧
  (n = 0 ∨ ∃ b off, a = some ⟨b, off, none⟩ ∧ b < w.heap.size ∧ ∀ i (h : i < L.length) j u, (enc L[i])[j]? = some u → w.cell? ⟨b, off + i * sz + j, none⟩ = some u)
theorem IsRec.below {sz : Nat} {enc : α → List Value} {w w' : World} {v : Value} {L : List α} (h : IsRec sz enc w v L) (hb : Below w.heap.size w w') : IsRec sz enc w' v L := by
  obtain ⟨a, n, cap, hv, h1, h2, h3, h4, h6⟩ := h
  refine ⟨a, n, cap, hv, h1, h2, h3, h4, ?_⟩
  rcases h6 with h6 | ⟨b, off, ha, hlt, hc⟩
  · exact .inl h6
  · refine .inr ⟨b, off, ha, Nat.lt_of_lt_of_le hlt hb.size, fun i hi j u hu => ?_⟩
    rw [hb.cell (p := ⟨b, off + i * sz + j, none⟩) hlt]
    exact hc i hi j u hu
theorem IsRec.some_at {sz : Nat} {enc : α → List Value} {w : World} {v : Value} {L : List α} (h : IsRec sz enc w v L) : ∃ a cap, v = .slice a L.length cap ∧ L.length ≤ cap ∧ cap ≤ 9223372036854775807 ∧ L.length ≤ 140737488351232 ∧ Hid (∀ k (h : k < L.length), ∃ b off, a = some ⟨b, off, none⟩ ∧ b < w.heap.size ∧ ∀ j u, (enc L[k])[j]? = some u → w.cell? ⟨b, off + k * sz + j, none⟩ = some u) := by
  obtain ⟨a, n, cap, rfl, rfl, h2, h3, h4, h6⟩ := h
  refine ⟨a, cap, rfl, h2, h3, h4, ?_⟩
  intro k hk
  rcases h6 with h6 | ⟨b, off, rfl, hlt, hc⟩
  · omega
  · exact ⟨b, off, rfl, hlt, hc k hk⟩
theorem IsRec.nil (sz : Nat) (enc : α → List Value) (w : World) : IsRec sz enc w (.slice none 0 0) [] := ⟨none, 0, 0, rfl, rfl, by omega, by omega, by omega, .inl rfl⟩
theorem IsRec.few {sz : Nat} {enc : α → List Value} {w : World} {v : Value} {L : List α} (h : IsRec sz enc w v L) : L.length ≤ 140737488351232 := by
  obtain ⟨a, n, cap, rfl, rfl, h2, h3, h4, h6⟩ := h
  exact h4
theorem IsRec.take {sz : Nat} {enc : α → List Value} {w : World} {a : Option Addr} {cap : Nat} {L : List α} (h : IsRec sz enc w (.slice a L.length cap) L) (k : Nat) (hk : k ≤ L.length) : IsRec sz enc w (.slice a k cap) (L.take k) := by
  obtain ⟨a', n, c, hv, h1, h2, h3, h4, h6⟩ := h
  obtain ⟨rfl, rfl, rfl⟩ : a' = a ∧ n = L.length ∧ c = cap := by simpa [eq_comm] using hv
  refine ⟨_, _, _, rfl, by simp; omega, by omega, h3, by omega, ?_⟩
  rcases h6 with h6 | ⟨b, off, ha, hlt, hc⟩
  · exact .inl (by omega)
  · refine .inr ⟨b, off, ha, hlt, fun i hi j u hu => ?_⟩
    simp only [List.length_take] at hi
    rw [List.getElem_take] at hu
    exact hc i (by omega) j u hu
/-- The cells of a row of records. -/
def recV (enc : α → List Value) (L : List α) : List Value := L.flatMap enc
theorem recV_nil (enc : α → List Value) : recV enc [] = [] := rfl
theorem recV_snoc (enc : α → List Value) (L : List α) (x : α) : recV enc (L ++ [x]) = recV enc L ++ enc x := by simp [recV]
theorem recV_append (enc : α → List Value) (L M : List α) : recV enc (L ++ M) = recV enc L ++ recV enc M := by simp [recV]
theorem recV_length {sz : Nat} {enc : α → List Value} (hz : ∀ x, (enc x).length = sz) : ∀ L, (recV enc L).length = L.length * sz
  | [] => by simp [recV]
  | x :: L => by
    have := recV_length hz L
    unfold recV at this ⊢
    rw [List.flatMap_cons, List.length_append, hz, this, List.length_cons, Nat.succ_mul]
    omega
theorem recV_get {sz : Nat} {enc : α → List Value} (hz : ∀ x, (enc x).length = sz) : ∀ (L : List α) (i : Nat) (h : i < L.length) (j : Nat) (hj : j < sz), (recV enc L)[i * sz + j]? = (enc L[i])[j]?
  | [], i, h, j, hj => by simp at h
  | x :: L, 0, h, j, hj => by
    unfold recV
    rw [List.flatMap_cons, Nat.zero_mul, Nat.zero_add, List.getElem?_append_left (by rw [hz]; exact hj)]
    rfl
  | x :: L, i + 1, h, j, hj => by
    have := recV_get hz L i (by simp at h; omega) j hj
    unfold recV at this ⊢
    rw [List.flatMap_cons, List.getElem?_append_right (by rw [hz, Nat.succ_mul]; omega), hz, show (i + 1) * sz + j - sz = i * sz + j by rw [Nat.succ_mul]; omega, this]
    simp
theorem recV_one {enc : α → List Value} (h1 : ∀ x, ∀ u ∈ enc x, u.oneCell' = true) (L : List α) : ∀ u ∈ recV enc L, u.oneCell' = true := by
  intro u hu
  obtain ⟨x, _, hx⟩ := List.mem_flatMap.1 hu
  exact h1 x u hx
/-- What is owned reads as a slice of records. -/
theorem IsRec.own {sz : Nat} {enc : α → List Value} (hz : ∀ x, (enc x).length = sz) (hs : 0 < sz) {w : World} {B e : Nat} {v : Value} {n : Nat} {L : List α} (h : w.ownsRow B e sz v n (recV enc L)) (hn : n ≤ 140737488351232) : IsRec sz enc w v L := by
  obtain ⟨h1, h2⟩ := h
  rw [recV_length hz] at h1
  have hln : L.length = n := Nat.eq_of_mul_eq_mul_right hs h1
  rcases h2 with ⟨rfl, rfl⟩ | ⟨g, cap, cur, rfl, hbg, hg, hnc, hcm, hcs, htake⟩
  · obtain rfl : L = [] := List.length_eq_zero_iff.1 hln
    exact IsRec.nil sz enc w
  · refine ⟨_, _, _, rfl, hln, hnc, by unfold maxLen at hcm; omega, hn, .inr ⟨g, 0, rfl, (Array.getElem?_eq_some_iff.1 hg).1, ?_⟩⟩
    intro i hi j u hu
    have hj : j < sz := by rw [← hz L[i]]; exact (List.getElem?_eq_some_iff.1 hu).1
    rw [Lib.cell_of_heap hg, Nat.zero_add]
    have hlt : i * sz + j < n * sz := by
      have : (i + 1) * sz ≤ n * sz := Nat.mul_le_mul_right _ (by omega)
      rw [Nat.succ_mul] at this
      omega
    have e : cur.toList[i * sz + j]? = (recV enc L)[i * sz + j]? := by rw [← htake, List.getElem?_take_of_lt hlt]
    rw [← Array.getElem?_toList, e, recV_get hz L i hi j hj]
    exact hu
theorem list_of (R : Nat → α → Prop) : ∀ n, (∀ i, i < n → ∃ x, R i x) → ∃ L : List α, L.length = n ∧ ∀ i (h : i < L.length), R i L[i]
  | 0, _ => ⟨[], rfl, fun i h => by simp at h⟩
  | n + 1, h => by
    obtain ⟨L, hl, hL⟩ := list_of R n (fun i hi => h i (by omega))
    obtain ⟨x, hx⟩ := h n (by omega)
    refine ⟨L ++ [x], by simp [hl], fun i hi => ?_⟩
    by_cases hin : i < L.length
    · rw [List.getElem_append_left hin]; exact hL i hin
    · simp at hi
      obtain rfl : i = n := by omega
      rw [List.getElem_append_right (by omega)]
      simpa using hx
/-- A slice of records among what is read, opened: each element by its own law. -/
theorem rec_cells {sz : Nat} {rec : α → List Value} (good : α → Prop) {H : Type} {enc : TypeId × Value → H} {P : Program} {W : World} {t e : TypeId} {m : Nat} {c : Value} {d : DataW H} {p : List MemPlace} (by_ : Nat)
    (ht : P.underlying t = some (.slice e)) (hC : P.cellsOf e = sz) (hs : 0 < sz) (hB : P.bytesOf e = by_) (hb8 : 8 ≤ by_)
    (hel : ∀ n cs' d' p', cs'.length = sz → DataW.trod enc P W 0 (fun _ => true) true n e cs' = some (d', p') → (DataW.weights P e d').all (· ≤ reachBytes) = true → ∃ x, cs' = rec x ∧ good x)
    (hf : DataW.trod enc P W 0 (fun _ => true) true m t [c] = some (d, p)) (hw : (DataW.weights P t d).all (· ≤ reachBytes) = true) : ∃ L : List α, IsRec sz rec W c L ∧ (∀ x ∈ L, good x) ∧ L.length * by_ ≤ reachBytes := by
  rcases Go.Deep.open_slice ht hf with ⟨hcs, _⟩ | ⟨a, len, cap, mm, n, D, Pl, hcs, _, hl, hm, hmm, hx, hall⟩
  · simp at hcs
    subst hcs
    exact ⟨[], IsRec.nil sz rec W, by simp, by simp⟩
  · simp at hcs
    subst hcs
    simp only [if_true] at hmm
    have hd := congrArg Prod.fst hx
    simp only at hd
    subst hd
    simp only [DataW.weights, ht, List.all_cons, Bool.and_eq_true, decide_eq_true_eq, List.all_append] at hw
    obtain ⟨hw1, hw2, hw3⟩ := hw
    rw [hB] at hw1
    simp only [List.length_map, List.length_range] at hw1
    have hmem : ∀ (ds : List (DataW H)), (DataW.weightsAll P e ds).all (· ≤ reachBytes) = true → ∀ d ∈ ds, (DataW.weights P e d).all (· ≤ reachBytes) = true := by
      intro ds
      induction ds with
      | nil => intro _ d hd; cases hd
      | cons a r ih =>
        intro h d hd
        rw [DataW.weightsAll, List.all_append, Bool.and_eq_true] at h
        rcases List.mem_cons.1 hd with rfl | hd
        · exact h.1
        · exact ih h.2 d hd
    have hlen : len * by_ ≤ reachBytes := Nat.le_trans (Nat.mul_le_mul_right _ (by omega)) hw1
    obtain ⟨L, hLl, hL⟩ := list_of (fun i x => W.cells? 0 (a.add (i * P.cellsOf e)) (P.cellsOf e) = some (rec x) ∧ good x) len (fun i hi => by
      obtain ⟨cs', h1, h2⟩ := hall i (by omega)
      obtain ⟨_, hcl, _⟩ := World.cells?_some h1
      have g := hmem _ hw2 (D i) (List.mem_map.2 ⟨i, List.mem_range.2 hi, rfl⟩)
      obtain ⟨x, hx1, hx2⟩ := hel n cs' _ _ (by rw [hcl, hC]) h2 g
      exact ⟨x, by rw [h1, hx1], hx2⟩)
    refine ⟨L, ?_, ?_, by rw [hLl]; exact hlen⟩
    · refine ⟨_, _, _, rfl, hLl, hl, by unfold maxLen at hm; omega, ?_, ?_⟩
      · have h8 : len * 8 ≤ len * by_ := Nat.mul_le_mul_left _ hb8
        unfold reachBytes at hlen
        omega
      · by_cases h0 : len = 0
        · exact .inl h0
        · right
          have h00 := (hL 0 (by omega)).1
          obtain ⟨b, off, spot⟩ := a
          have hcell : ∀ i (h : i < L.length) j u, (rec L[i])[j]? = some u → W.cell? ((⟨b, off, spot⟩ : Addr).add (i * sz + j)) = some u := by
            intro i hi j u hu
            have h1 := (hL i hi).1
            obtain ⟨_, hcl, hcc⟩ := World.cells?_some h1
            have hj : j < P.cellsOf e := by rw [← hcl]; exact (List.getElem?_eq_some_iff.1 hu).1
            have := hcc j hj
            rw [Go.Deep.add_add, hC] at this
            rw [this, hu]
          have hsz : 0 < (rec L[0]).length := by
            obtain ⟨_, hcl, _⟩ := World.cells?_some h00
            omega
          have hc0 := hcell 0 (by omega) 0 _ (List.getElem?_eq_getElem hsz)
          have hspot : spot = none := by simpa [Addr.add] using World.cell?_spot hc0
          subst hspot
          have hlt : b < W.heap.size := by
            rcases Nat.lt_or_ge b W.heap.size with h' | h'
            · exact h'
            · simp [World.cell?, Addr.add, Array.getElem?_eq_none h'] at hc0
          refine ⟨b, off, rfl, hlt, fun i hi j u hu => ?_⟩
          have := hcell i hi j u hu
          rw [show (⟨b, off, none⟩ : Addr).add (i * sz + j) = ⟨b, off + i * sz + j, none⟩ by simp [Addr.add, Nat.add_assoc]] at this
          exact this
    · intro x hx
      obtain ⟨i, hi, rfl⟩ := List.getElem_of_mem hx
      exact (hL i hi).2
end
end Go.Proofs.Ytngllioidfffdaa
namespace Go.Proofs.Ytngllioidfffdaa
set_option maxRecDepth 100000
open Go.RowKit Go.ChangeShapes Go.WideShapes
set_option linter.unusedVariables false
/-- An event's cells. -/
def evV (x : Ev) : List Value := [.int .i64 x.1, .int .i64 x.2.1, .string ⟨x.2.2.1.toArray⟩, .string ⟨x.2.2.2.toArray⟩]
theorem evV_len (x : Ev) : (evV x).length = 4 := rfl
theorem evV_one (x : Ev) : ∀ u ∈ evV x, u.oneCell' = true := by
  intro u hu
  simp [evV] at hu
  rcases hu with rfl | rfl | rfl | rfl <;> rfl
/-- Numbers that an int may be, texts that may lie in memory. -/
def goodE (x : Ev) : Prop := (-9223372036854775808 ≤ x.1 ∧ x.1 ≤ 9223372036854775807) ∧ (-9223372036854775808 ≤ x.2.1 ∧ x.2.1 ≤ 9223372036854775807) ∧ x.2.2.1.length ≤ 140737488351232 ∧ x.2.2.2.length ≤ 140737488351232
abbrev IsEvs (w : World) (v : Value) (L : List Ev) : Prop := IsRec 4 evV w v L
theorem IsEvs.at {w : World} {b off : Nat} {L : List Ev} {k : Nat} (hk : k < L.length) (h : ∀ j u, (evV L[k])[j]? = some u → w.cell? ⟨b, off + k * 4 + j, none⟩ = some u) :
    w.cell? ⟨b, off + k * 4, none⟩ = some (.int .i64 L[k].1) ∧ w.cell? ⟨b, off + k * 4 + 1, none⟩ = some (.int .i64 L[k].2.1) ∧ w.cell? ⟨b, off + k * 4 + 2, none⟩ = some (.string ⟨L[k].2.2.1.toArray⟩) ∧ w.cell? ⟨b, off + k * 4 + 3, none⟩ = some (.string ⟨L[k].2.2.2.toArray⟩) :=
  ⟨h 0 _ rfl, h 1 _ rfl, h 2 _ rfl, h 3 _ rfl⟩
theorem mayE_range {k t : Int} {a b : List UInt8} (h : mayE (k, t, a, b)) : 1 ≤ k ∧ k ≤ 5 ∧ 1 ≤ t ∧ t ≤ 32 := h.1
theorem mayE_key {k t : Int} {a b : List UInt8} (h : k = 2 ∨ k = 3) : mayE (k, t, a, b) ↔ (1 ≤ k ∧ k ≤ 5 ∧ 1 ≤ t ∧ t ≤ 32) ∧ (1 ≤ a.length ∧ a.length ≤ 32 ∧ b.length ≤ 32 ∧ (k = 2 ∨ 1 ≤ b.length)) := by
  unfold mayE
  simp only
  rw [if_pos (show keyedE k from h)]
theorem mayE_unkey {k t : Int} {a b : List UInt8} (h : ¬ (k = 2 ∨ k = 3)) : mayE (k, t, a, b) ↔ (1 ≤ k ∧ k ≤ 5 ∧ 1 ≤ t ∧ t ≤ 32) ∧ (a = [] ∧ b = []) := by
  unfold mayE
  simp only
  rw [if_neg (show ¬ keyedE k from h)]
/-- A cell of a box made ahead of what left all that lay. -/
theorem box_cell {w w1 : World} {c : Array Value} {t : TypeId} (b : Below (w.alloc (.cells c t)).heap.size (w.alloc (.cells c t)) w1) (j : Nat) (u : Value) (h : c[j]? = some u) : w1.cell? ⟨w.heap.size, j, none⟩ = some u :=
  (b.cell (p := ⟨w.heap.size, j, none⟩) (by simp)).trans (by rw [World.cell?_alloc_new]; exact h)
theorem box_cell_al {w w1 : World} {c : Array Value} {t : TypeId} (b : Below (w.alloc (.cells c t)).heap.size (w.alloc (.cells c t)) w1) (j : Nat) (u : Value) (h : c[j]? = some u) (o : Obj) : (w1.alloc o).cell? ⟨w.heap.size, j, none⟩ = some u :=
  box_cell (b.alloc b.size o) j u h
theorem i64_wf {n : Int} (h : (Lit.int .i64 n).wf = true) : -9223372036854775808 ≤ n ∧ n ≤ 9223372036854775807 := by
  simp [Lit.wf, IntKind.min, IntKind.max, IntKind.signed, IntKind.bits] at h
  omega
section
variable {H : Type} {enc : TypeId × Value → H} {P : Program} {W : World}
theorem ev_elem {e : TypeId} {f0 f1 f2 f3 : Field} (hs : P.underlying e = some (.struct #[f0, f1, f2, f3])) (hone : Go.Deep.oneCellFields P #[f0, f1, f2, f3] = true)
    (u0 : P.underlying f0.type = some (.int .i64)) (u1 : P.underlying f1.type = some (.int .i64)) (u2 : P.underlying f2.type = some .string) (u3 : P.underlying f3.type = some .string)
    (n : Nat) (cs' : List Value) (d' : DataW H) (p' : List MemPlace) (hl : cs'.length = 4) (h : DataW.trod enc P W 0 (fun _ => true) true n e cs' = some (d', p')) (hw : (DataW.weights P e d').all (· ≤ reachBytes) = true) : ∃ x, cs' = evV x ∧ goodE x := by
  obtain ⟨xs, k, _, hx, hcl, hlen, hel⟩ := DataW.trod_struct hs h
  have hlen' : xs.length = 4 := hlen
  match xs, hlen', cs', hl with
  | [y0, y1, y2, y3], _, [c0, c1, c2, c3], _ =>
    obtain ⟨o0, k0⟩ := Go.Deep.hone_of hone 0 f0 rfl
    obtain ⟨o1, k1⟩ := Go.Deep.hone_of hone 1 f1 rfl
    obtain ⟨o2, k2⟩ := Go.Deep.hone_of hone 2 f2 rfl
    obtain ⟨o3, k3⟩ := Go.Deep.hone_of hone 3 f3 rfl
    have g0 := hel 0 f0 rfl
    have g1 := hel 1 f1 rfl
    have g2 := hel 2 f2 rfl
    have g3 := hel 3 f3 rfl
    simp [o0, o1, o2, o3, k0, k1, k2, k3] at g0 g1 g2 g3
    obtain ⟨n0, e0, rfl, w0⟩ := DataW.trod_int u0 g0
    obtain ⟨n1, e1, rfl, w1⟩ := DataW.trod_int u1 g1
    obtain ⟨s2, e2, rfl, _⟩ := DataW.trod_string u2 g2
    obtain ⟨s3, e3, rfl, _⟩ := DataW.trod_string u3 g3
    have hd := congrArg Prod.fst hx
    simp at hd
    subst hd
    simp at e0 e1 e2 e3
    subst e0 e1 e2 e3
    simp only [DataW.weights, DataW.weightsEach, hs, List.map_cons, List.map_nil, List.append_nil, List.nil_append, List.all_append, List.all_cons, List.all_nil, Bool.and_true, Bool.and_eq_true] at hw
    refine ⟨(n0, n1, s2.data.toList, s3.data.toList), rfl, i64_wf w0, i64_wf w1, ?_, ?_⟩
    · exact of_decide_eq_true hw.1
    · exact of_decide_eq_true hw.2
end
end Go.Proofs.Ytngllioidfffdaa
namespace Go.Proofs.Ytngllioidfffdaa
set_option maxRecDepth 100000
open Go.RowKit
set_option linter.unusedVariables false
abbrev allMay (h : List Ev) : Prop := ∀ x ∈ h, mayE x
def leavesE (h : List Ev) : List (List UInt8) × Nat := if 256 < h.length then ([], 4) else if allMay h then (h.map bytE, 0) else ([], 1)
abbrev allTake (l : List (List UInt8)) : Prop := ∀ s ∈ l, (takeE s).isSome = true
def backE (l : List (List UInt8)) : List Ev × Nat := if 256 < l.length then ([], 4) else if allTake l then (l.filterMap takeE, 0) else ([], 3)
theorem leavesE_big (h : List Ev) (hl : 256 < h.length) : leavesE h = ([], 4) := by unfold leavesE; rw [if_pos hl]
theorem leavesE_bad (h : List Ev) (hl : ¬ 256 < h.length) (k : Nat) (hk : k < h.length) (hm : ¬ mayE h[k]) : leavesE h = ([], 1) := by
  unfold leavesE
  rw [if_neg hl, if_neg (fun ha => hm (ha _ (List.getElem_mem hk)))]
theorem leavesE_ok (h : List Ev) (hl : ¬ 256 < h.length) (ha : allMay h) : leavesE h = (h.map bytE, 0) := by
  unfold leavesE
  rw [if_neg hl, if_pos ha]
theorem backE_big (l : List (List UInt8)) (hl : 256 < l.length) : backE l = ([], 4) := by unfold backE; rw [if_pos hl]
theorem backE_bad (l : List (List UInt8)) (hl : ¬ 256 < l.length) (k : Nat) (hk : k < l.length) (hm : takeE l[k] = none) : backE l = ([], 3) := by
  unfold backE
  rw [if_neg hl, if_neg (fun ha => by have := ha _ (List.getElem_mem hk); rw [hm] at this; cases this)]
theorem backE_ok (l : List (List UInt8)) (hl : ¬ 256 < l.length) (ha : allTake l) : backE l = (l.filterMap takeE, 0) := by
  unfold backE
  rw [if_neg hl, if_pos ha]
theorem allMay_next (h : List Ev) (k : Nat) (hk : k < h.length) (ha : allMay (h.take k)) (hm : mayE h[k]) : allMay (h.take (k + 1)) := by
  intro x hx
  rw [List.take_succ_eq_append_getElem hk] at hx
  rcases List.mem_append.1 hx with hx | hx
  · exact ha x hx
  · simp at hx; subst hx; exact hm
theorem allTake_next (l : List (List UInt8)) (k : Nat) (hk : k < l.length) (ha : allTake (l.take k)) (x : Ev) (hm : takeE l[k] = some x) : allTake (l.take (k + 1)) ∧ (l.take (k + 1)).filterMap takeE = (l.take k).filterMap takeE ++ [x] := by
  rw [List.take_succ_eq_append_getElem hk]
  refine ⟨fun s hs => ?_, by rw [List.filterMap_append, List.filterMap_cons_some hm, List.filterMap_nil]⟩
  rcases List.mem_append.1 hs with hs | hs
  · exact ha s hs
  · simp at hs; subst hs; rw [hm]; rfl
theorem allTake_len (l : List (List UInt8)) (ha : allTake l) : (l.filterMap takeE).length = l.length := by
  induction l with
  | nil => rfl
  | cons a r ih =>
    have h1 := ha a (by simp)
    obtain ⟨x, hx⟩ := Option.isSome_iff_exists.1 h1
    rw [List.filterMap_cons_some hx, List.length_cons, ih (fun s hs => ha s (by simp [hs])), List.length_cons]
/-- Texts made, and a code. -/
def TxRes (w : World) (r : List (List UInt8) × Nat) (e : Ending) (w' : World) : Prop :=
  ∃ v, e = .returned (.tuple #[v, .int .i64 (r.2 : Int)]) ∧ Below w.heap.size w w' ∧ w'.ownsRow w.heap.size 9 1 v r.1.length (strV r.1)
/-- Events made, and a code. -/
def EvRes (t : TypeId) (w : World) (r : List Ev × Nat) (e : Ending) (w' : World) : Prop :=
  ∃ v, e = .returned (.tuple #[v, .int .i64 (r.2 : Int)]) ∧ Below w.heap.size w w' ∧ w'.ownsRow w.heap.size t 4 v r.1.length (recV evV r.1)
end Go.Proofs.Ytngllioidfffdaa
namespace Go.Proofs.Ytngllioidfffdaa
set_option maxRecDepth 100000
open Go.RowKit
set_option linter.unusedVariables false
abbrev evW (x : Ev) : Value := .agg #[.int .i64 x.1, .int .i64 x.2.1, .string ⟨x.2.2.1.toArray⟩, .string ⟨x.2.2.2.toArray⟩]
theorem ev_info7 : (Try.prog.info? 30).map (fun i => (i.zero, i.size, i.bytes)) = some (some (.agg #[.int .i64 0, .int .i64 0, .string ByteArray.empty, .string ByteArray.empty]), 4, 48) := by kernel_rfl
theorem size_ev7 : (Try.prog.info? 30).map (·.size) = some 4 := by kernel_rfl
theorem ne_nil7 (l : List UInt8) (h : l ≠ []) : l.isEmpty = false := by cases l with
  | nil => exact absurd rfl h
  | cons _ _ => rfl
theorem owns_keep7 {W : World} {B e k n g j : Nat} {v : Value} {xs : List Value} (h : W.ownsRow B e k v n xs) (u : Value) (hne : some g ≠ v.ownBlock) : (W.setCell ⟨g, j, none⟩ u).ownsRow B e k v n xs := h.kept (Lib.grownBy_setCell W g j u) (.inr (fun e => hne e.symm))
theorem cell_new7 {W : World} {c : Array Value} {t : TypeId} {b j : Nat} {u : Value} (hb : b = W.heap.size) (h : c[j]? = some u) : (W.alloc (.cells c t)).cell? ⟨b, j, none⟩ = some u := by
  subst hb
  rw [World.cell?_alloc_new]
  exact h
/-- A row of events, made. -/
def EvRow (t : TypeId) (w : World) (L : List Ev) (e : Ending) (w' : World) : Prop := ∃ v, e = .returned v ∧ Below w.heap.size w w' ∧ w'.ownsRow w.heap.size t 4 v L.length (recV evV L)
end Go.Proofs.Ytngllioidfffdaa
namespace Go.Proofs.Ytngllioidfffdaa
set_option maxRecDepth 100000
open Go.RowKit Go.Shelf
set_option linter.unusedVariables false
theorem cell_al {W : World} {a : Addr} {v : Value} (o : Obj) (h : W.cell? a = some v) : (W.alloc o).cell? a = some v := cell_kept h (World.grownBy_alloc W o none) (fun r e => by cases e)
theorem owns_low {w : World} {B B' e k n : Nat} {v : Value} {xs : List Value} (h : w.ownsRow B e k v n xs) (hb : B' ≤ B) : w.ownsRow B' e k v n xs := by
  obtain ⟨h1, h2⟩ := h
  refine ⟨h1, ?_⟩
  rcases h2 with h2 | ⟨g, cap, cur, hv, hbg, r⟩
  · exact .inl h2
  · exact .inr ⟨g, cap, cur, hv, by omega, r⟩
/-- What leaves all that lay leaves all that is no cells. -/
theorem keeps_of_below {W W' : World} (h : Below W.heap.size W W') : KeepsOthers W W' :=
  ⟨h.size, fun k o hk _ => (h.block k (Array.getElem?_eq_some_iff.1 hk).1).trans hk⟩
theorem boxed_below {W W' : World} {B t : Nat} {v : Value} (h : Boxed W B t v) (hb : Below W.heap.size W W') : Boxed W' B t v := (hb.block B h.lt).trans h
/-- A block of cells lies on where only what is no cells is turned. -/
theorem block_kept {W W' : World} {row : Option Nat} {B t : Nat} {c : Array Value} (h : W.heap[B]? = some (.cells c t (0, 0))) (hg : W.grownBy W' row) (hr : ∀ r, row = some r → ∃ o : Obj, W.heap[r]? = some o ∧ o.isCells = false) : W'.heap[B]? = some (.cells c t (0, 0)) :=
  (hg.block B (Array.getElem?_eq_some_iff.1 h).1 (fun e => by obtain ⟨o, ho, hc⟩ := hr B e.symm; rw [h] at ho; cases ho; cases hc)).trans h
/-- A block of cells of another type is no owned row's. -/
theorem block_not_row {W : World} {B t e : Nat} {c : Array Value} (h : W.heap[B]? = some (.cells c t (0, 0))) (hte : t ≠ e) {base size k : Nat} {v : Value} {xs : List Value} (hr : W.ownsRow base e size v k xs) : some B ≠ v.ownBlock := by
  rcases hr.2 with ⟨rfl, _⟩ | ⟨g, cap, cur, rfl, _, hgb, _⟩
  · simp [Value.ownBlock]
  · intro e'
    obtain rfl : B = g := by simpa [Value.ownBlock] using e'
    rw [h] at hgb
    simp at hgb
    exact hte hgb.2
theorem cell_of_block {W : World} {B t : Nat} {c : Array Value} {f : Nat × Nat} (h : W.heap[B]? = some (.cells c t f)) (j : Nat) : W.cell? ⟨B, j, none⟩ = c[j]? := by simp [World.cell?, h]
end Go.Proofs.Ytngllioidfffdaa
namespace Go.Proofs.Ytngllioidfffdaa
set_option maxRecDepth 100000
set_option linter.unusedVariables false
theorem fin_prefix {n : Nat} {pre : List (Fin n)} {x : Fin n} (h : pre ++ [x] <+: List.finRange n) : pre <+: List.finRange n ∧ x.val = pre.length ∧ pre.length < n := by
  have hl := h.length_le
  rw [List.length_append, List.length_finRange] at hl
  have h1 : pre <+: List.finRange n := (List.prefix_append _ _).trans h
  refine ⟨h1, ?_, by simp at hl; omega⟩
  have h2 := List.IsPrefix.getElem h (i := pre.length) (by simp)
  rw [List.getElem_append_right (Nat.le_refl _)] at h2
  simp at h2
  rw [h2]
theorem fin_take {n k : Nat} (hk : k < n) : (List.finRange n).take (k + 1) = (List.finRange n).take k ++ [⟨k, hk⟩] := by
  rw [List.take_succ_eq_append_getElem (by rw [List.length_finRange]; exact hk), List.getElem_finRange]
  rfl
end Go.Proofs.Ytngllioidfffdaa
namespace Go.Proofs.Ytngllioidfffdaa
set_option maxRecDepth 100000
open Go.RowKit Go.Shelf
set_option linter.unusedVariables false
/-- A place and its event, as they are handed to a round. -/
abbrev ixV (h : List Ev) (i : Fin h.length) : Array Value := #[.int .i64 (i.val : Int), evW h[i.val]]
/-- What a round keeps: all that lay ahead, and the iterator's own box. -/
def KpE (n b : Nat) (W W' : World) : Prop := Below n W W' ∧ W'.heap[b]? = W.heap[b]?
theorem kpE_t {n b : Nat} {A B C : World} (h : KpE n b A B) (k : KpE n b B C) : KpE n b A C := ⟨h.1.trans k.1, k.2.trans h.2⟩
theorem kpE_b {n b : Nat} {w : World} (hn : n ≤ w.heap.size) (hb : b < w.heap.size) (W : World) (l : Nat) (o o' : Obj) (hl : w.heap.size ≤ l) (h : W.heap[l]? = some o) (h1 : o.isCells = false) (h2 : o.isWalk = false) : KpE n b W (W.putObj l o') :=
  ⟨belowK_b hn W l o o' hl h h1 h2, World.putObj_heap_other (by omega)⟩
theorem boxed_below7 {W W' : World} {B : Nat} {t : TypeId} {v : Value} (h : Boxed W B t v) (b : Below W.heap.size W W') : Boxed W' B t v := (b.block B h.lt).trans h
end Go.Proofs.Ytngllioidfffdaa
namespace Go.Proofs.Ytngllioidfffdaa
set_option maxRecDepth 100000
open Go.RowKit Go.Shelf
set_option linter.unusedVariables false
abbrev EvZ : Ev := (0, 0, [], [])
theorem made_evs7 (n : Nat) : (madeCells #[.int .i64 0, .int .i64 0, .string ByteArray.empty, .string ByteArray.empty] (n * 4)).toList = recV evV (List.replicate n EvZ) := by
  apply List.ext_getElem?
  intro j
  by_cases hj : j < n * 4
  · have g := recV_get evV_len (List.replicate n EvZ) (j / 4) (by simp; omega) (j % 4) (by omega)
    rw [show j / 4 * 4 + j % 4 = j by omega] at g
    rw [g, List.getElem_replicate]
    have h4 : j % 4 = 0 ∨ j % 4 = 1 ∨ j % 4 = 2 ∨ j % 4 = 3 := by omega
    rcases h4 with h4 | h4 | h4 | h4 <;> rw [h4] <;> simp [madeCells, hj, h4, evV] <;> rfl
  · have l := recV_length evV_len (List.replicate n EvZ)
    rw [List.length_replicate] at l
    rw [List.getElem?_eq_none (l := recV evV _) (by rw [l]; omega)]
    simp [madeCells, hj]
theorem evs_put7 (D R : List Ev) (z x : Ev) : ((((recV evV (D ++ z :: R)).set (D.length * 4) (.int .i64 x.1)).set (D.length * 4 + 1) (.int .i64 x.2.1)).set (D.length * 4 + 2) (.string ⟨x.2.2.1.toArray⟩)).set (D.length * 4 + 3) (.string ⟨x.2.2.2.toArray⟩) = recV evV (D ++ x :: R) := by
  have l := recV_length evV_len D
  have c : ∀ y, recV evV (D ++ y :: R) = recV evV D ++ (evV y ++ recV evV R) := fun y => by rw [recV_append, show y :: R = [y] ++ R from rfl, recV_append]; simp [recV]
  rw [c, c, List.set_append_right _ _ (by omega), List.set_append_right _ _ (by omega), List.set_append_right _ _ (by omega), List.set_append_right _ _ (by omega), l, show D.length * 4 - D.length * 4 = 0 by omega, show D.length * 4 + 1 - D.length * 4 = 1 by omega, show D.length * 4 + 2 - D.length * 4 = 2 by omega, show D.length * 4 + 3 - D.length * 4 = 3 by omega]
  rfl
theorem evs_set7 (L : List Ev) (i : Nat) (hi : i < L.length) (x : Ev) : ((((recV evV L).set (i * 4) (.int .i64 x.1)).set (i * 4 + 1) (.int .i64 x.2.1)).set (i * 4 + 2) (.string ⟨x.2.2.1.toArray⟩)).set (i * 4 + 3) (.string ⟨x.2.2.2.toArray⟩) = recV evV (L.set i x) := by
  have e : L = L.take i ++ L[i] :: L.drop (i + 1) := by rw [← List.drop_eq_getElem_cons hi, List.take_append_drop]
  have hl : (L.take i).length = i := by rw [List.length_take]; omega
  have h := evs_put7 (L.take i) (L.drop (i + 1)) L[i] x
  rw [← e, hl] at h
  rw [h, List.set_eq_take_append_cons_drop, if_pos hi]
/-- One event of a row set. -/
def putE (W : World) (g i : Nat) (x : Ev) : World := (((W.setCell ⟨g, i * 4, none⟩ (.int .i64 x.1)).setCell ⟨g, i * 4 + 1, none⟩ (.int .i64 x.2.1)).setCell ⟨g, i * 4 + 2, none⟩ (.string ⟨x.2.2.1.toArray⟩)).setCell ⟨g, i * 4 + 3, none⟩ (.string ⟨x.2.2.2.toArray⟩)
theorem putE_row {W : World} {B e g n cap i : Nat} {L : List Ev} (h : W.ownsRow B e 4 (.slice (some ⟨g, 0, none⟩) n cap) n (recV evV L)) (hi : i < L.length) (x : Ev) : (putE W g i x).ownsRow B e 4 (.slice (some ⟨g, 0, none⟩) n cap) n (recV evV (L.set i x)) := by
  have hs := ((((h.stored (i * 4) (.int .i64 x.1)).1.stored (i * 4 + 1) (.int .i64 x.2.1)).1.stored (i * 4 + 2) (.string ⟨x.2.2.1.toArray⟩)).1.stored (i * 4 + 3) (.string ⟨x.2.2.2.toArray⟩)).1
  rw [evs_set7 L i hi x] at hs
  exact hs
theorem putE_other (W : World) (g i : Nat) (x : Ev) (b : Nat) (hb : b ≠ g) : (putE W g i x).heap[b]? = W.heap[b]? := by
  unfold putE
  rw [Below.heap_setCell _ _ _ b hb, Below.heap_setCell _ _ _ b hb, Below.heap_setCell _ _ _ b hb, Below.heap_setCell _ _ _ b hb]
theorem putE_size (W : World) (g i : Nat) (x : Ev) : (putE W g i x).heap.size = W.heap.size := by simp [putE]
theorem putE_below {B : Nat} {A W : World} (h : Below B A W) (g i : Nat) (x : Ev) (hg : B ≤ g) : Below B A (putE W g i x) :=
  (((h.setCell (p := ⟨g, i * 4, none⟩) hg _).setCell (p := ⟨g, i * 4 + 1, none⟩) hg _).setCell (p := ⟨g, i * 4 + 2, none⟩) hg _).setCell (p := ⟨g, i * 4 + 3, none⟩) hg _
theorem putE_keeps (W : World) (g i : Nat) (x : Ev) : KeepsOthers W (putE W g i x) :=
  (((KeepsOthers.setCell W _ _).trans (KeepsOthers.setCell _ _ _)).trans (KeepsOthers.setCell _ _ _)).trans (KeepsOthers.setCell _ _ _)
/-- The cells of one event of a row. -/
theorem row_cells7 {W : World} {B e g n cap i : Nat} {L : List Ev} (h : W.ownsRow B e 4 (.slice (some ⟨g, 0, none⟩) n cap) n (recV evV L)) (hn : L.length = n) (hi : i < n) :
    ∃ y : Ev, (W.cell? ⟨g, i * 4, none⟩ = some (.int .i64 y.1) ∧ W.cell? ⟨g, i * 4 + 1, none⟩ = some (.int .i64 y.2.1) ∧ W.cell? ⟨g, i * 4 + 2, none⟩ = some (.string ⟨y.2.2.1.toArray⟩) ∧ W.cell? ⟨g, i * 4 + 3, none⟩ = some (.string ⟨y.2.2.2.toArray⟩)) ∧
      (W.frozen? ⟨g, i * 4, none⟩ = false ∧ W.frozen? ⟨g, i * 4 + 1, none⟩ = false ∧ W.frozen? ⟨g, i * 4 + 2, none⟩ = false ∧ W.frozen? ⟨g, i * 4 + 3, none⟩ = false) := by
  have hi' : i < L.length := by omega
  refine ⟨L[i], ⟨?_, ?_, ?_, ?_⟩, h.frozenAt _, h.frozenAt _, h.frozenAt _, h.frozenAt _⟩
  · have c := h.cellAt (i * 4) (by omega)
    rw [show i * 4 = i * 4 + 0 by omega, recV_get evV_len L i hi' 0 (by omega)] at c
    exact c
  · have c := h.cellAt (i * 4 + 1) (by omega)
    rw [recV_get evV_len L i hi' 1 (by omega)] at c
    exact c
  · have c := h.cellAt (i * 4 + 2) (by omega)
    rw [recV_get evV_len L i hi' 2 (by omega)] at c
    exact c
  · have c := h.cellAt (i * 4 + 3) (by omega)
    rw [recV_get evV_len L i hi' 3 (by omega)] at c
    exact c
theorem boxed_bel {W W' : World} {B b t : Nat} {v : Value} (h : Boxed W b t v) (hb : Below B W W') (hlt : b < B) : Boxed W' b t v := (hb.block b hlt).trans h
theorem sbox_bel {W W' : World} {B b t : Nat} {c : Array Value} (h : SBox W b t c) (hb : Below B W W') (hlt : b < B) : SBox W' b t c := (hb.block b hlt).trans h
theorem owns_bel {B C e k n g m cap : Nat} {xs : List Value} {w w' : World} (h : w.ownsRow B e k (.slice (some ⟨g, 0, none⟩) m cap) n xs) (hb : Below C w w') (hg : g < C) : w'.ownsRow B e k (.slice (some ⟨g, 0, none⟩) m cap) n xs := by
  obtain ⟨h1, h2⟩ := h
  refine ⟨h1, ?_⟩
  rcases h2 with h2 | ⟨g', cap', cur, hv, hbg, hg', r⟩
  · exact .inl h2
  · refine .inr ⟨g', cap', cur, hv, hbg, (hb.block g' ?_).trans hg', r⟩
    simp at hv
    omega
theorem ownFrom_of_below {β : Type} {B : Nat} {I : β → World → Prop} (hs : ∀ s W, I s W → B ≤ W.heap.size) (h : ∀ s W W', I s W → Below B W W' → I s W') : OwnFrom B I :=
  fun s W W' row hi hg hr => h s W W' hi ((Below.refl B W).grown hg (hs s W hi) (fun k e => (hr k e).1))
theorem ownFrom_false {β : Type} (B : Nat) : OwnFrom B (fun (_ : β) (_ : World) => False) := fun _ _ _ _ h _ _ => h
theorem wpListIn_make_full7 {F : Fence} {n : Nat} {P : Program} (w : World) {ops : Array Oper} {rest : List Oper} {o : Oper} {a : Act} {Q : Exit → Act → World → Prop}
    (hg : o.guard = none) (l c : Operand) (t : TypeId) (hop : o.op = Op.makeSlice t l c)
    (base : Nat) (e : TypeId) (i : TypeInfo) (z : Value) (size : Nat) (h1 : P.underlying t = some (.slice e)) (h2 : P.info? e = some i) (h3 : i.zero = some z) (h4 : i.size = size)
    (kl kc : IntKind) (L C : Int) (m : Nat) (hl : a.eval l = .int kl L) (hc : a.eval c = .int kc C) (hL : L = (m : Int)) (hC : C = (m : Int)) (b2 : i.bytes * m ≤ 281474976710656) (b3 : m ≤ maxLen) (b4 : base ≤ w.heap.size)
    (hK : ∀ w', w'.ownsRow base e size (.slice (some ⟨w.heap.size, 0, none⟩) m m) m (madeCells z.cells (m * size)).toList → w.grownBy w' none → wpListIn F n P ops Q rest (a.put o.dst (.slice (some ⟨w.heap.size, 0, none⟩) m m)) w') :
    wpListIn F n P ops Q (o :: rest) a w := by
  refine wpListIn_plain hg fun K hK' => ?_
  obtain ⟨w', hrun, r1, r2⟩ := run_make_full (P := P) w base t e i z size h1 h2 h3 h4 kl kc m b2 b3 b4
  subst hL
  subst hC
  unfold Oper.wpIn
  refine ⟨?_, ?_⟩
  · simp [Oper.about, hop]
  · rw [Oper.semAt_plain F _ _ (by rw [hop]; intro c hc'; cases hc')]
    simp [execOp, hop, hl, hc, hrun, Result.andThen]
    exact hK' _ _ (hK w' r1 r2)
end Go.Proofs.Ytngllioidfffdaa
namespace Go.Proofs.Ytngllioidfffdaa
set_option maxRecDepth 100000
open Go.RowKit Go.Maps
set_option linter.unusedVariables false
theorem grown_below8 {a b : World} (x : Option Nat) (h : Below a.heap.size a b) : a.grownBy b x := ⟨h.os, h.tape, h.output, h.size, fun i hi _ => h.block i hi⟩
theorem law8i : Keyed Try.prog 3 := int_keyed Try.underlying3
theorem law8s : Keyed Try.prog 9 := string_keyed Try.underlying9
theorem zero8i (w : World) : (zeroValue 3).run Try.prog w = .ok (.int .i64 0) w := by kernel_rfl
abbrev I64 (t : Int) : Prop := -9223372036854775808 ≤ t ∧ t ≤ 9223372036854775807
theorem key8i {t : Int} (ht : I64 t) : keyOf Try.prog 3 (.int .i64 t) = some (.int .i64 t) := keyOf_int_mk Try.underlying3 (WalkArith.wf_i64 ht)
theorem key8s {t : List UInt8} (ht : t.length ≤ 9223372036854775807) : keyOf Try.prog 9 (.string ⟨t.toArray⟩) = some (.string t) := by
  have := Go.WideMaps.keyOf_string_mk (P := Try.prog) (k := 9) (s := ⟨t.toArray⟩) Try.underlying9 (by rw [ba_size]; unfold maxLen; omega)
  simpa using this
/-- Numbers by numbers. -/
def IMap (W : World) (b n : Nat) (f : Int → Option Int) : Prop :=
  ∃ D : DataW Unit, W.ownsMap Try.prog 3 (plainElem Try.prog 3) b n D ∧ ∀ t : Int, Maps.has D (.int .i64 t) = (f t).isSome ∧ ∀ k, f t = some k → D.atKey (.int .i64 t) (.lit (.int .i64 0)) = .lit (.int .i64 k)
/-- A set of numbers; of texts. -/
def ISet (W : World) (b n : Nat) (p : Int → Bool) : Prop :=
  ∃ D : DataW Unit, W.ownsMap Try.prog 3 unitElem b n D ∧ ∀ t : Int, Maps.has D (.int .i64 t) = p t
def TSet (W : World) (b n : Nat) (p : List UInt8 → Bool) : Prop :=
  ∃ D : DataW Unit, W.ownsMap Try.prog 9 unitElem b n D ∧ ∀ t : List UInt8, Maps.has D (.string t) = p t
section
variable {W W' : World} {b n m B : Nat} {row : Option Nat}
theorem IMap.kept {f : Int → Option Int} (h : IMap W b n f) (hg : W.grownBy W' row) (hne : some b ≠ row) : IMap W' b n f := by
  obtain ⟨D, h1, h2⟩ := h; exact ⟨D, h1.kept hg hne, h2⟩
theorem ISet.kept {p : Int → Bool} (h : ISet W b n p) (hg : W.grownBy W' row) (hne : some b ≠ row) : ISet W' b n p := by
  obtain ⟨D, h1, h2⟩ := h; exact ⟨D, h1.kept hg hne, h2⟩
theorem TSet.kept {p : List UInt8 → Bool} (h : TSet W b n p) (hg : W.grownBy W' row) (hne : some b ≠ row) : TSet W' b n p := by
  obtain ⟨D, h1, h2⟩ := h; exact ⟨D, h1.kept hg hne, h2⟩
theorem IMap.same {f : Int → Option Int} (h : IMap W b n f) (hb : W'.heap[b]? = W.heap[b]?) : IMap W' b n f := by
  obtain ⟨D, ⟨es, clock, h1, h2⟩, h3⟩ := h; exact ⟨D, ⟨es, clock, hb.trans h1, h2⟩, h3⟩
theorem ISet.same {p : Int → Bool} (h : ISet W b n p) (hb : W'.heap[b]? = W.heap[b]?) : ISet W' b n p := by
  obtain ⟨D, ⟨es, clock, h1, h2⟩, h3⟩ := h; exact ⟨D, ⟨es, clock, hb.trans h1, h2⟩, h3⟩
theorem TSet.same {p : List UInt8 → Bool} (h : TSet W b n p) (hb : W'.heap[b]? = W.heap[b]?) : TSet W' b n p := by
  obtain ⟨D, ⟨es, clock, h1, h2⟩, h3⟩ := h; exact ⟨D, ⟨es, clock, hb.trans h1, h2⟩, h3⟩
theorem IMap.bel {f : Int → Option Int} (h : IMap W b n f) (hb : Below B W W') (hlt : b < B) : IMap W' b n f := h.same (hb.block b hlt)
theorem ISet.bel {p : Int → Bool} (h : ISet W b n p) (hb : Below B W W') (hlt : b < B) : ISet W' b n p := h.same (hb.block b hlt)
theorem TSet.bel {p : List UInt8 → Bool} (h : TSet W b n p) (hb : Below B W W') (hlt : b < B) : TSet W' b n p := h.same (hb.block b hlt)
theorem IMap.lt {f : Int → Option Int} (h : IMap W b n f) : b < W.heap.size := by obtain ⟨D, h1, h2⟩ := h; exact h1.lt
theorem ISet.lt {p : Int → Bool} (h : ISet W b n p) : b < W.heap.size := by obtain ⟨D, h1, h2⟩ := h; exact h1.lt
theorem TSet.lt {p : List UInt8 → Bool} (h : TSet W b n p) : b < W.heap.size := by obtain ⟨D, h1, h2⟩ := h; exact h1.lt
theorem IMap.mono {f : Int → Option Int} (h : IMap W b n f) (hn : n ≤ m) : IMap W b m f := by obtain ⟨D, h1, h2⟩ := h; exact ⟨D, h1.mono hn, h2⟩
theorem ISet.mono {p : Int → Bool} (h : ISet W b n p) (hn : n ≤ m) : ISet W b m p := by obtain ⟨D, h1, h2⟩ := h; exact ⟨D, h1.mono hn, h2⟩
theorem TSet.mono {p : List UInt8 → Bool} (h : TSet W b n p) (hn : n ≤ m) : TSet W b m p := by obtain ⟨D, h1, h2⟩ := h; exact ⟨D, h1.mono hn, h2⟩
theorem IMap.made (w : World) : IMap (w.alloc (.map #[] 0)) w.heap.size 0 (fun _ => none) := ⟨.map [], World.ownsMap_made w _ _ _, fun t => ⟨rfl, fun k h => by cases h⟩⟩
theorem ISet.made (w : World) : ISet (w.alloc (.map #[] 0)) w.heap.size 0 (fun _ => false) := ⟨.map [], World.ownsMap_made w _ _ _, fun t => rfl⟩
theorem TSet.made (w : World) : TSet (w.alloc (.map #[] 0)) w.heap.size 0 (fun _ => false) := ⟨.map [], World.ownsMap_made w _ _ _, fun t => rfl⟩
/-- What is known behind a store. -/
def updI (f : Int → Option Int) (t k : Int) : Int → Option Int := fun u => if u = t then some k else f u
theorem IMap.put {f : Int → Option Int} {D : DataW Unit} (hd : ∀ t : Int, Maps.has D (.int .i64 t) = (f t).isSome ∧ ∀ k, f t = some k → D.atKey (.int .i64 t) (.lit (.int .i64 0)) = .lit (.int .i64 k)) (hm : IsMap D) (t k : Int)
    (h : W.ownsMap Try.prog 3 (plainElem Try.prog 3) b n (D.put (.int .i64 t) (.lit (.int .i64 k)))) : IMap W b n (updI f t k) := by
  refine ⟨_, h, fun u => ?_⟩
  unfold updI
  by_cases hu : u = t
  · subst hu
    rw [if_pos rfl]
    refine ⟨?_, fun c hc => ?_⟩
    · rw [has_put_same hm (show WideAt.IsKeyLit (.int .i64 u) from trivial)]; rfl
    · rw [atKey_put_same hm (show WideAt.IsKeyLit (.int .i64 u) from trivial)]
      simp at hc
      rw [hc]
  · rw [if_neg hu]
    have hne : (Lit.int .i64 u) ≠ Lit.int .i64 t := fun h => hu (by cases h; rfl)
    refine ⟨?_, fun c hc => ?_⟩
    · rw [has_put_other hne]; exact (hd u).1
    · rw [atKey_put_other hne]; exact (hd u).2 c hc
theorem ISet.put {p : Int → Bool} {D : DataW Unit} (hd : ∀ t : Int, Maps.has D (.int .i64 t) = p t) (hm : IsMap D) (t : Int) (h : W.ownsMap Try.prog 3 unitElem b n (D.put (.int .i64 t) (.agg []))) : ISet W b n (fun u => p u || decide (t = u)) := by
  refine ⟨_, h, fun u => ?_⟩
  by_cases hu : u = t
  · subst hu
    rw [has_put_same hm (show WideAt.IsKeyLit (.int .i64 u) from trivial)]
    simp
  · have hne : (Lit.int .i64 u) ≠ Lit.int .i64 t := fun h => hu (by cases h; rfl)
    rw [has_put_other hne, hd u]
    show p u = (p u || decide (t = u))
    rw [decide_eq_false (fun e : t = u => hu e.symm), Bool.or_false]
theorem TSet.put {p : List UInt8 → Bool} {D : DataW Unit} (hd : ∀ t : List UInt8, Maps.has D (.string t) = p t) (hm : IsMap D) (t : List UInt8) (h : W.ownsMap Try.prog 9 unitElem b n (D.put (.string t) (.agg []))) : TSet W b n (fun u => p u || decide (t = u)) := by
  refine ⟨_, h, fun u => ?_⟩
  by_cases hu : u = t
  · subst hu
    rw [has_put_same hm (show WideAt.IsKeyLit (.string u) from trivial)]
    simp
  · have hne : (Lit.string u) ≠ Lit.string t := fun h => hu (by cases h; rfl)
    rw [has_put_other hne, hd u]
    show p u = (p u || decide (t = u))
    rw [decide_eq_false (fun e : t = u => hu e.symm), Bool.or_false]
end
end Go.Proofs.Ytngllioidfffdaa
namespace Go.Proofs.Ytngllioidfffdaa
set_option maxRecDepth 100000
open Go.RowKit Go.Shelf Go.Maps
set_option linter.unusedVariables false
theorem owns_turn {W W' : World} {row : Option Nat} {B e k n : Nat} {v : Value} {xs : List Value} (h : W.ownsRow B e k v n xs) (hg : W.grownBy W' row) (hr : ∀ r, row = some r → ∃ o : Obj, W.heap[r]? = some o ∧ o.isCells = false) : W'.ownsRow B e k v n xs := by
  refine h.kept hg ?_
  rcases h.2 with ⟨rfl, _⟩ | ⟨g, cap, cur, rfl, _, hgb, _⟩
  · exact .inl rfl
  · refine .inr (fun e => ?_)
    obtain ⟨o, ho, hc⟩ := hr g (by rw [← e]; rfl)
    rw [hgb] at ho
    cases ho
    cases hc
theorem keeps_row {W W' : World} {B e k n : Nat} {v : Value} {xs : List Value} (h : W.ownsRow B e k v n xs) (hg : W.grownBy W' v.ownBlock) : KeepsOthers W W' :=
  KeepsOthers.of_grownBy hg (fun j o ej hj => by
    rcases h.2 with ⟨rfl, _⟩ | ⟨g, cap, cur, rfl, _, hgb, _⟩
    · simp [Value.ownBlock] at ej
    · obtain rfl : g = j := by simpa [Value.ownBlock] using ej
      rw [hgb] at hj
      cases hj
      rfl)
end Go.Proofs.Ytngllioidfffdaa
namespace Go.Proofs.Ytngllioidfffdaa
set_option maxRecDepth 100000
open Go.RowKit
set_option linter.unusedVariables false
theorem own_empty8 (w : World) (e k : Nat) : (w.alloc (.cells #[] e)).ownsRow w.heap.size e k (.slice (some ⟨w.heap.size, 0, none⟩) 0 0) 0 [] :=
  ⟨by simp, .inr ⟨w.heap.size, 0, #[], rfl, Nat.le_refl _, SBox.new w e #[], Nat.le_refl _, by unfold maxLen; omega, by simp, by simp⟩⟩
theorem rec_src8 {α : Type} {sz : Nat} {enc : α → List Value} (hz : ∀ x, (enc x).length = sz) (hs : 0 < sz) {W : World} {b off : Nat} {L : List α} (h : ∀ i (h : i < L.length) j u, (enc L[i])[j]? = some u → W.cell? ⟨b, off + i * sz + j, none⟩ = some u) : ∀ j u, (recV enc L)[j]? = some u → W.cell? ((⟨b, off, none⟩ : Addr).add j) = some u := by
  intro j u hu
  have hj : j < L.length * sz := by
    have := (List.getElem?_eq_some_iff.1 hu).1
    rwa [recV_length hz] at this
  have hi : j / sz < L.length := (Nat.div_lt_iff_lt_mul hs).2 hj
  have hm : j % sz < sz := Nat.mod_lt _ hs
  have e : j / sz * sz + j % sz = j := by rw [Nat.mul_comm]; exact Nat.div_add_mod j sz
  have g := recV_get hz L (j / sz) hi (j % sz) hm
  rw [e, hu] at g
  have := h (j / sz) hi (j % sz) u g.symm
  rw [Nat.add_assoc, e] at this
  have ea : (⟨b, off, none⟩ : Addr).add j = ⟨b, off + j, none⟩ := by simp [Addr.add]
  rw [ea]
  exact this
/-- Of a slice that is a row of records: its cells, at whatever later world. -/
theorem IsRec.src {α : Type} {sz : Nat} {enc : α → List Value} (hz : ∀ x, (enc x).length = sz) (hs : 0 < sz) {w W : World} {ad : Addr} {n c : Nat} {L : List α} (h : IsRec sz enc w (.slice (some ad) n c) L) (hb : Below w.heap.size w W) : ∀ j u, (recV enc L)[j]? = some u → W.cell? (ad.add j) = some u := by
  by_cases h0 : L = []
  · subst h0; intro j u hu; simp [recV] at hu
  · obtain ⟨a, n', c', hv, h1, _, _, _, h6⟩ := h
    obtain ⟨rfl, rfl, rfl⟩ : a = some ad ∧ n' = n ∧ c' = c := by simpa [eq_comm] using hv
    rcases h6 with h6 | ⟨b, off, hb', hlt, hc⟩
    · exact absurd (List.length_eq_zero_iff.1 (by omega)) h0
    · obtain rfl : ad = ⟨b, off, none⟩ := by simpa using hb'
      refine rec_src8 hz hs (fun i hi j u hu => ?_)
      exact (hb.cell (p := ⟨b, off + i * sz + j, none⟩) hlt).trans (hc i hi j u hu)
theorem own_slice9 {W : World} {B e k n : Nat} {v : Value} {xs : List Value} (h : W.ownsRow B e k v n xs) : ∃ g c, v = .slice g n c ∧ n ≤ c := by
  rcases h.2 with ⟨rfl, rfl⟩ | ⟨g, cap, cur, rfl, _, _, hc, _⟩
  · exact ⟨_, _, rfl, Nat.le_refl _⟩
  · exact ⟨_, _, rfl, hc⟩
end Go.Proofs.Ytngllioidfffdaa
