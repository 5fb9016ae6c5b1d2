/-
  Rows of records (several cells an element), read, cut, opened and grown: of no program.
-/
import Derived.Test.YthopjpjloeaamaaGB
import Derived.Deep.Slices
import Derived.Deep.Fields
import Derived.Lib.Builder
namespace Go.Proofs.Ythopjpjloeaamaa
set_option maxRecDepth 100000
open Go.RowKit Go.ChangeShapes Go.WideShapes
set_option linter.unusedVariables false
section
variable {α : Type}
theorem take_next_eq {l m : List α} {k : Nat} (h1 : k < l.length) (h2 : k < m.length) (h : l.take k = m.take k) (he : l[k] = m[k]) : l.take (k + 1) = m.take (k + 1) := by
  rw [List.take_succ_eq_append_getElem h1, List.take_succ_eq_append_getElem h2, h, he]
theorem ne_by_at {l m : List α} {k : Nat} (h1 : k < l.length) (h2 : k < m.length) (he : ¬ l[k] = m[k]) : ¬ l = m := fun h => by subst h; exact he rfl
/-- A slice of records: each element's cells are enc's. -/
def IsRec (sz : Nat) (enc : α → List Value) (w : World) (v : Value) (L : List α) : Prop :=
  ∃ a n cap, v = .slice a n cap ∧ L.length = n ∧ n ≤ cap ∧ cap ≤ 9223372036854775807 ∧ n ≤ 140737488351232 ∧
  (n = 0 ∨ ∃ b off, a = some ⟨b, off, none⟩ ∧ b < w.heap.size ∧ ∀ i (h : i < L.length) j u, (enc L[i])[j]? = some u → w.cell? ⟨b, off + i * sz + j, none⟩ = some u)
theorem IsRec.below {sz : Nat} {enc : α → List Value} {w w' : World} {v : Value} {L : List α} (h : IsRec sz enc w v L) (hb : Below w.heap.size w w') : IsRec sz enc w' v L := by
  obtain ⟨a, n, cap, hv, h1, h2, h3, h4, h6⟩ := h
  refine ⟨a, n, cap, hv, h1, h2, h3, h4, ?_⟩
  rcases h6 with h6 | ⟨b, off, ha, hlt, hc⟩
  · exact .inl h6
  · refine .inr ⟨b, off, ha, Nat.lt_of_lt_of_le hlt hb.size, fun i hi j u hu => ?_⟩
    rw [hb.cell (p := ⟨b, off + i * sz + j, none⟩) hlt]
    exact hc i hi j u hu
theorem IsRec.some_at {sz : Nat} {enc : α → List Value} {w : World} {v : Value} {L : List α} (h : IsRec sz enc w v L) : ∃ a cap, v = .slice a L.length cap ∧ L.length ≤ cap ∧ cap ≤ 9223372036854775807 ∧ L.length ≤ 140737488351232 ∧ Hid (∀ k (h : k < L.length), ∃ b off, a = some ⟨b, off, none⟩ ∧ b < w.heap.size ∧ ∀ j u, (enc L[k])[j]? = some u → w.cell? ⟨b, off + k * sz + j, none⟩ = some u) := by
  obtain ⟨a, n, cap, rfl, rfl, h2, h3, h4, h6⟩ := h
  refine ⟨a, cap, rfl, h2, h3, h4, ?_⟩
  intro k hk
  rcases h6 with h6 | ⟨b, off, rfl, hlt, hc⟩
  · omega
  · exact ⟨b, off, rfl, hlt, hc k hk⟩
theorem IsRec.nil (sz : Nat) (enc : α → List Value) (w : World) : IsRec sz enc w (.slice none 0 0) [] := ⟨none, 0, 0, rfl, rfl, by omega, by omega, by omega, .inl rfl⟩
theorem IsRec.few {sz : Nat} {enc : α → List Value} {w : World} {v : Value} {L : List α} (h : IsRec sz enc w v L) : L.length ≤ 140737488351232 := by
  obtain ⟨a, n, cap, rfl, rfl, h2, h3, h4, h6⟩ := h
  exact h4
theorem IsRec.take {sz : Nat} {enc : α → List Value} {w : World} {a : Option Addr} {cap : Nat} {L : List α} (h : IsRec sz enc w (.slice a L.length cap) L) (k : Nat) (hk : k ≤ L.length) : IsRec sz enc w (.slice a k cap) (L.take k) := by
  obtain ⟨a', n, c, hv, h1, h2, h3, h4, h6⟩ := h
  obtain ⟨rfl, rfl, rfl⟩ : a' = a ∧ n = L.length ∧ c = cap := by simpa [eq_comm] using hv
  refine ⟨_, _, _, rfl, by simp; omega, by omega, h3, by omega, ?_⟩
  rcases h6 with h6 | ⟨b, off, ha, hlt, hc⟩
  · exact .inl (by omega)
  · refine .inr ⟨b, off, ha, hlt, fun i hi j u hu => ?_⟩
    simp only [List.length_take] at hi
    rw [List.getElem_take] at hu
    exact hc i (by omega) j u hu
/-- The cells of a row of records. -/
def recV (enc : α → List Value) (L : List α) : List Value := L.flatMap enc
theorem recV_nil (enc : α → List Value) : recV enc [] = [] := rfl
theorem recV_snoc (enc : α → List Value) (L : List α) (x : α) : recV enc (L ++ [x]) = recV enc L ++ enc x := by simp [recV]
theorem recV_append (enc : α → List Value) (L M : List α) : recV enc (L ++ M) = recV enc L ++ recV enc M := by simp [recV]
theorem recV_length {sz : Nat} {enc : α → List Value} (hz : ∀ x, (enc x).length = sz) : ∀ L, (recV enc L).length = L.length * sz
  | [] => by simp [recV]
  | x :: L => by
    have := recV_length hz L
    unfold recV at this ⊢
    rw [List.flatMap_cons, List.length_append, hz, this, List.length_cons, Nat.succ_mul]
    omega
theorem recV_get {sz : Nat} {enc : α → List Value} (hz : ∀ x, (enc x).length = sz) : ∀ (L : List α) (i : Nat) (h : i < L.length) (j : Nat) (hj : j < sz), (recV enc L)[i * sz + j]? = (enc L[i])[j]?
  | [], i, h, j, hj => by simp at h
  | x :: L, 0, h, j, hj => by
    unfold recV
    rw [List.flatMap_cons, Nat.zero_mul, Nat.zero_add, List.getElem?_append_left (by rw [hz]; exact hj)]
    rfl
  | x :: L, i + 1, h, j, hj => by
    have := recV_get hz L i (by simp at h; omega) j hj
    unfold recV at this ⊢
    rw [List.flatMap_cons, List.getElem?_append_right (by rw [hz, Nat.succ_mul]; omega), hz, show (i + 1) * sz + j - sz = i * sz + j by rw [Nat.succ_mul]; omega, this]
    simp
theorem recV_one {enc : α → List Value} (h1 : ∀ x, ∀ u ∈ enc x, u.oneCell' = true) (L : List α) : ∀ u ∈ recV enc L, u.oneCell' = true := by
  intro u hu
  obtain ⟨x, _, hx⟩ := List.mem_flatMap.1 hu
  exact h1 x u hx
/-- What is owned reads as a slice of records. -/
theorem IsRec.own {sz : Nat} {enc : α → List Value} (hz : ∀ x, (enc x).length = sz) (hs : 0 < sz) {w : World} {B e : Nat} {v : Value} {n : Nat} {L : List α} (h : w.ownsRow B e sz v n (recV enc L)) (hn : n ≤ 140737488351232) : IsRec sz enc w v L := by
  obtain ⟨h1, h2⟩ := h
  rw [recV_length hz] at h1
  have hln : L.length = n := Nat.eq_of_mul_eq_mul_right hs h1
  rcases h2 with ⟨rfl, rfl⟩ | ⟨g, cap, cur, rfl, hbg, hg, hnc, hcm, hcs, htake⟩
  · obtain rfl : L = [] := List.length_eq_zero_iff.1 hln
    exact IsRec.nil sz enc w
  · refine ⟨_, _, _, rfl, hln, hnc, by unfold maxLen at hcm; omega, hn, .inr ⟨g, 0, rfl, (Array.getElem?_eq_some_iff.1 hg).1, ?_⟩⟩
    intro i hi j u hu
    have hj : j < sz := by rw [← hz L[i]]; exact (List.getElem?_eq_some_iff.1 hu).1
    rw [Lib.cell_of_heap hg, Nat.zero_add]
    have hlt : i * sz + j < n * sz := by
      have : (i + 1) * sz ≤ n * sz := Nat.mul_le_mul_right _ (by omega)
      rw [Nat.succ_mul] at this
      omega
    have e : cur.toList[i * sz + j]? = (recV enc L)[i * sz + j]? := by rw [← htake, List.getElem?_take_of_lt hlt]
    rw [← Array.getElem?_toList, e, recV_get hz L i hi j hj]
    exact hu
theorem list_of (R : Nat → α → Prop) : ∀ n, (∀ i, i < n → ∃ x, R i x) → ∃ L : List α, L.length = n ∧ ∀ i (h : i < L.length), R i L[i]
  | 0, _ => ⟨[], rfl, fun i h => by simp at h⟩
  | n + 1, h => by
    obtain ⟨L, hl, hL⟩ := list_of R n (fun i hi => h i (by omega))
    obtain ⟨x, hx⟩ := h n (by omega)
    refine ⟨L ++ [x], by simp [hl], fun i hi => ?_⟩
    by_cases hin : i < L.length
    · rw [List.getElem_append_left hin]; exact hL i hin
    · simp at hi
      obtain rfl : i = n := by omega
      rw [List.getElem_append_right (by omega)]
      simpa using hx
/-- A slice of records among what is read, opened: each element by its own law. -/
theorem rec_cells {sz : Nat} {rec : α → List Value} (good : α → Prop) {H : Type} {enc : TypeId × Value → H} {P : Program} {W : World} {t e : TypeId} {m : Nat} {c : Value} {d : DataW H} {p : List MemPlace} (by_ : Nat)
    (ht : P.underlying t = some (.slice e)) (hC : P.cellsOf e = sz) (hs : 0 < sz) (hB : P.bytesOf e = by_) (hb8 : 8 ≤ by_)
    (hel : ∀ n cs' d' p', cs'.length = sz → DataW.trod enc P W 0 (fun _ => true) true n e cs' = some (d', p') → (DataW.weights P e d').all (· ≤ reachBytes) = true → ∃ x, cs' = rec x ∧ good x)
    (hf : DataW.trod enc P W 0 (fun _ => true) true m t [c] = some (d, p)) (hw : (DataW.weights P t d).all (· ≤ reachBytes) = true) : ∃ L : List α, IsRec sz rec W c L ∧ (∀ x ∈ L, good x) ∧ L.length * by_ ≤ reachBytes := by
  rcases Go.Deep.open_slice ht hf with ⟨hcs, _⟩ | ⟨a, len, cap, mm, n, D, Pl, hcs, _, hl, hm, hmm, hx, hall⟩
  · simp at hcs
    subst hcs
    exact ⟨[], IsRec.nil sz rec W, by simp, by simp⟩
  · simp at hcs
    subst hcs
    simp only [if_true] at hmm
    have hd := congrArg Prod.fst hx
    simp only at hd
    subst hd
    simp only [DataW.weights, ht, List.all_cons, Bool.and_eq_true, decide_eq_true_eq, List.all_append] at hw
    obtain ⟨hw1, hw2, hw3⟩ := hw
    rw [hB] at hw1
    simp only [List.length_map, List.length_range] at hw1
    have hmem : ∀ (ds : List (DataW H)), (DataW.weightsAll P e ds).all (· ≤ reachBytes) = true → ∀ d ∈ ds, (DataW.weights P e d).all (· ≤ reachBytes) = true := by
      intro ds
      induction ds with
      | nil => intro _ d hd; cases hd
      | cons a r ih =>
        intro h d hd
        rw [DataW.weightsAll, List.all_append, Bool.and_eq_true] at h
        rcases List.mem_cons.1 hd with rfl | hd
        · exact h.1
        · exact ih h.2 d hd
    have hlen : len * by_ ≤ reachBytes := Nat.le_trans (Nat.mul_le_mul_right _ (by omega)) hw1
    obtain ⟨L, hLl, hL⟩ := list_of (fun i x => W.cells? 0 (a.add (i * P.cellsOf e)) (P.cellsOf e) = some (rec x) ∧ good x) len (fun i hi => by
      obtain ⟨cs', h1, h2⟩ := hall i (by omega)
      obtain ⟨_, hcl, _⟩ := World.cells?_some h1
      have g := hmem _ hw2 (D i) (List.mem_map.2 ⟨i, List.mem_range.2 hi, rfl⟩)
      obtain ⟨x, hx1, hx2⟩ := hel n cs' _ _ (by rw [hcl, hC]) h2 g
      exact ⟨x, by rw [h1, hx1], hx2⟩)
    refine ⟨L, ?_, ?_, by rw [hLl]; exact hlen⟩
    · refine ⟨_, _, _, rfl, hLl, hl, by unfold maxLen at hm; omega, ?_, ?_⟩
      · have h8 : len * 8 ≤ len * by_ := Nat.mul_le_mul_left _ hb8
        unfold reachBytes at hlen
        omega
      · by_cases h0 : len = 0
        · exact .inl h0
        · right
          have h00 := (hL 0 (by omega)).1
          obtain ⟨b, off, spot⟩ := a
          have hcell : ∀ i (h : i < L.length) j u, (rec L[i])[j]? = some u → W.cell? ((⟨b, off, spot⟩ : Addr).add (i * sz + j)) = some u := by
            intro i hi j u hu
            have h1 := (hL i hi).1
            obtain ⟨_, hcl, hcc⟩ := World.cells?_some h1
            have hj : j < P.cellsOf e := by rw [← hcl]; exact (List.getElem?_eq_some_iff.1 hu).1
            have := hcc j hj
            rw [Go.Deep.add_add, hC] at this
            rw [this, hu]
          have hsz : 0 < (rec L[0]).length := by
            obtain ⟨_, hcl, _⟩ := World.cells?_some h00
            omega
          have hc0 := hcell 0 (by omega) 0 _ (List.getElem?_eq_getElem hsz)
          have hspot : spot = none := by simpa [Addr.add] using World.cell?_spot hc0
          subst hspot
          have hlt : b < W.heap.size := by
            rcases Nat.lt_or_ge b W.heap.size with h' | h'
            · exact h'
            · simp [World.cell?, Addr.add, Array.getElem?_eq_none h'] at hc0
          refine ⟨b, off, rfl, hlt, fun i hi j u hu => ?_⟩
          have := hcell i hi j u hu
          rw [show (⟨b, off, none⟩ : Addr).add (i * sz + j) = ⟨b, off + i * sz + j, none⟩ by simp [Addr.add, Nat.add_assoc]] at this
          exact this
    · intro x hx
      obtain ⟨i, hi, rfl⟩ := List.getElem_of_mem hx
      exact (hL i hi).2
end
end Go.Proofs.Ythopjpjloeaamaa
