/-
  Lives and numbers in rows; what is found, as a value: of no program but for the types.
  What a loop that looks for a transaction knows: in lists.
  Transactions, as a loop over the living events makes them: in lists.
  Versions, as a loop over the living events makes them: in lists.
  Bounds of what histories give: in lists.
  The cells of a row of records, as what is appended; an empty row, made: of no program.
  Maps and sets that a call has made, with whole numbers or texts for keys: of no program but for the types.
-/
import Derived.Test.YtpmcmohdhicfcaaProg
import Derived.Test.YtpmcmohdhicfcaaGA
import Derived.Test.YtpmcmohdhicfcaaGC
import Derived.Test.YtpmcmohdhicfcaaGB
import Derived.Maps.OwnSet
import Derived.Maps.OwnOps
import Derived.Maps.OwnIn
import Derived.RangeFuncBox
namespace Go.Proofs.Ytpmcmohdhicfcaa
set_option maxRecDepth 100000
open Go.RowKit
set_option linter.unusedVariables false
abbrev Lf := Int × Nat × Nat × Bool
def lifV (x : Lf) : List Value := [.int .i64 x.1, .int .i64 (x.2.1 : Int), .int .i64 (x.2.2.1 : Int), .bool x.2.2.2]
theorem lifV_len (x : Lf) : (lifV x).length = 4 := rfl
theorem lifV_one (x : Lf) : ∀ u ∈ lifV x, u.oneCell' = true := by
  intro u hu
  simp [lifV] at hu
  rcases hu with rfl | rfl | rfl | rfl <;> rfl
abbrev IsLfs (w : World) (v : Value) (L : List Lf) : Prop := IsRec 4 lifV w v L
abbrev lifA (x : Lf) : Value := .agg #[.int .i64 x.1, .int .i64 (x.2.1 : Int), .int .i64 (x.2.2.1 : Int), .bool x.2.2.2]
def findP (h : List Ev) (t : Int) : Lf × Bool := match findL h t with
  | none => ((0, 0, 0, false), false)
  | some x => (x, true)
theorem lif_info : (Try.prog.info? 37).map (fun i => (i.zero, i.size, i.bytes)) = some (some (.agg #[.int .i64 0, .int .i64 0, .int .i64 0, .bool false]), 4, 32) := by kernel_rfl
theorem size_lif : (Try.prog.info? 37).map (·.size) = some 4 := by kernel_rfl
/-- Numbers in a row. -/
def intV (n : Int) : List Value := [.int .i64 n]
theorem intV_len (n : Int) : (intV n).length = 1 := rfl
abbrev IsInts (w : World) (v : Value) (L : List Int) : Prop := IsRec 1 intV w v L
theorem int_info : (Try.prog.info? 3).map (fun i => (i.zero, i.size, i.bytes)) = some (some (.int .i64 0), 1, 8) := by kernel_rfl
/-- A row of lives, made; a row of numbers, made. -/
def LfRow (t : TypeId) (w : World) (L : List Lf) (e : Ending) (w' : World) : Prop := ∃ v, e = .returned v ∧ Below w.heap.size w w' ∧ w'.ownsRow w.heap.size t 4 v L.length (recV lifV L)
def InRow (w : World) (L : List Int) (e : Ending) (w' : World) : Prop := ∃ v, e = .returned v ∧ Below w.heap.size w w' ∧ w'.ownsRow w.heap.size 3 1 v L.length (recV intV L)
theorem find_has (h : List Ev) (i : Nat) (hi : i < h.length) : ∃ x, findL h (ev h i).2.1 = some x := by
  unfold findL
  cases hf : fstL h (ev h i).2.1 h.length with
  | none => exact absurd rfl ((fstL_none _ _ _).1 hf i hi)
  | some f =>
    simp only
    cases endL h (ev h i).2.1 h.length with
    | none => exact ⟨_, rfl⟩
    | some e => exact ⟨_, rfl⟩
theorem findP_of {h : List Ev} {t : Int} {x : Lf} (hx : findL h t = some x) : findP h t = (x, true) := by unfold findP; rw [hx]
theorem last_upto (h : List Ev) (t : Int) (key : List UInt8) (i : Nat) (hi : i ≤ h.length) : lastL h t key (i : Int) = lastN h t key i := by
  unfold lastL
  rw [Int.toNat_natCast, Nat.min_eq_right hi]
theorem last_end (h : List Ev) (t : Int) (key : List UInt8) (before : Int) (k : Nat) (hk : k ≤ h.length) (hb : k = 0 ∨ (k : Int) ≤ before) (he : k = h.length ∨ before ≤ (k : Int)) : lastL h t key before = lastN h t key k := by
  unfold lastL
  have : min h.length before.toNat = k := by rw [Nat.min_def]; split <;> omega
  rw [this]
end Go.Proofs.Ytpmcmohdhicfcaa
namespace Go.Proofs.Ytpmcmohdhicfcaa
set_option maxRecDepth 100000
set_option linter.unusedVariables false
def FdI (h : List Ev) (t : Int) (k : Nat) (L : Lf) (th : Bool) : Prop :=
  endL h t k = none ∧ ((fstL h t k = none ∧ th = false ∧ L = (0, 0, 0, false)) ∨ ∃ f, fstL h t k = some f ∧ th = true ∧ L = (t, f, h.length, false))
theorem fd_zero (h : List Ev) (t : Int) : FdI h t 0 (0, 0, 0, false) false := ⟨rfl, Or.inl ⟨rfl, rfl, rfl⟩⟩
theorem endL_skip (h : List Ev) (t : Int) (k : Nat) (he : endL h t k = none) (hn : ¬ endB (ev h k) t) : endL h t (k + 1) = none := by
  rw [endL_none] at he ⊢
  intro j hj
  rcases Nat.lt_or_ge j k with h' | h'
  · exact he j h'
  · obtain rfl : j = k := by omega
    exact hn
theorem fstL_old (h : List Ev) (t : Int) (k f : Nat) (he : fstL h t k = some f) : fstL h t (k + 1) = some f := by
  rw [fstL_some] at he ⊢
  exact ⟨by omega, he.2⟩
theorem fstL_new (h : List Ev) (t : Int) (k : Nat) (he : fstL h t k = none) (hx : (ev h k).2.1 = t) : fstL h t (k + 1) = some k := by
  rw [fstL_none] at he
  rw [fstL_some]
  exact ⟨by omega, hx, he⟩
theorem fstL_skip (h : List Ev) (t : Int) (k : Nat) (he : fstL h t k = none) (hx : (ev h k).2.1 ≠ t) : fstL h t (k + 1) = none := by
  rw [fstL_none] at he ⊢
  intro j hj
  rcases Nat.lt_or_ge j k with h' | h'
  · exact he j h'
  · obtain rfl : j = k := by omega
    exact hx
theorem fstL_mono (h : List Ev) (t : Int) (k n f : Nat) (hk : k ≤ n) (he : fstL h t k = some f) : fstL h t n = some f := by
  rw [fstL_some] at he ⊢
  exact ⟨by omega, he.2⟩
theorem fd_skip {h : List Ev} {t : Int} {k : Nat} {L : Lf} {th : Bool} (hf : FdI h t k L th) (hx : (ev h k).2.1 ≠ t) : FdI h t (k + 1) L th := by
  obtain ⟨h1, h2⟩ := hf
  refine ⟨endL_skip h t k h1 (fun hh => hx hh.1), ?_⟩
  rcases h2 with ⟨a, b, c⟩ | ⟨f, a, b, c⟩
  · exact Or.inl ⟨fstL_skip h t k a hx, b, c⟩
  · exact Or.inr ⟨f, fstL_old h t k f a, b, c⟩
theorem fd_new {h : List Ev} {t : Int} {k : Nat} {L : Lf} (hf : FdI h t k L false) (hx : (ev h k).2.1 = t) (hn : ¬ ((ev h k).1 = 4 ∨ (ev h k).1 = 5)) : FdI h t (k + 1) (t, k, h.length, false) true := by
  obtain ⟨h1, h2⟩ := hf
  refine ⟨endL_skip h t k h1 (fun hh => hn hh.2), ?_⟩
  rcases h2 with ⟨a, b, c⟩ | ⟨f, a, b, c⟩
  · exact Or.inr ⟨k, fstL_new h t k a hx, rfl, rfl⟩
  · cases b
theorem fd_old {h : List Ev} {t : Int} {k : Nat} {L : Lf} (hf : FdI h t k L true) (hn : ¬ ((ev h k).1 = 4 ∨ (ev h k).1 = 5)) : FdI h t (k + 1) L true := by
  obtain ⟨h1, h2⟩ := hf
  refine ⟨endL_skip h t k h1 (fun hh => hn hh.2), ?_⟩
  rcases h2 with ⟨a, b, c⟩ | ⟨f, a, b, c⟩
  · cases b
  · exact Or.inr ⟨f, fstL_old h t k f a, rfl, c⟩
theorem fd_end {h : List Ev} {t : Int} {k : Nat} (he : endL h t k = none) (hk : k < h.length) (hx : (ev h k).2.1 = t) (hn : (ev h k).1 = 4 ∨ (ev h k).1 = 5) (f : Nat) (hf : fstL h t (k + 1) = some f) : findL h t = some (t, f, k, decide ((ev h k).1 = 4)) := by
  unfold findL
  rw [fstL_mono h t (k + 1) h.length f (by omega) hf, (endL_some h t h.length k).2 ⟨hk, ⟨hx, hn⟩, (endL_none h t k).1 he⟩]
theorem fd_end_new {h : List Ev} {t : Int} {k : Nat} {L : Lf} (hf : FdI h t k L false) (hk : k < h.length) (hx : (ev h k).2.1 = t) (hn : (ev h k).1 = 4 ∨ (ev h k).1 = 5) : findP h t = ((t, k, k, decide ((ev h k).1 = 4)), true) := by
  obtain ⟨h1, h2⟩ := hf
  rcases h2 with ⟨a, b, c⟩ | ⟨f, a, b, c⟩
  · exact findP_of (fd_end h1 hk hx hn k (fstL_new h t k a hx))
  · cases b
theorem fd_end_old {h : List Ev} {t : Int} {k : Nat} {L : Lf} (hf : FdI h t k L true) (hk : k < h.length) (hx : (ev h k).2.1 = t) (hn : (ev h k).1 = 4 ∨ (ev h k).1 = 5) : findP h t = ((L.1, L.2.1, k, decide ((ev h k).1 = 4)), true) := by
  obtain ⟨h1, h2⟩ := hf
  rcases h2 with ⟨a, b, c⟩ | ⟨f, a, b, c⟩
  · cases b
  · rw [c]
    exact findP_of (fd_end h1 hk hx hn f (fstL_old h t k f a))
theorem fd_done {h : List Ev} {t : Int} {L : Lf} {th : Bool} (hf : FdI h t h.length L th) : findP h t = (L, th) := by
  obtain ⟨h1, h2⟩ := hf
  unfold findP findL
  rcases h2 with ⟨a, b, c⟩ | ⟨f, a, b, c⟩
  · rw [a, b, c]
  · rw [a, h1, b, c]
end Go.Proofs.Ytpmcmohdhicfcaa
namespace Go.Proofs.Ytpmcmohdhicfcaa
set_option maxRecDepth 100000
set_option linter.unusedVariables false
/-- The number of a transaction among those that were met. -/
def nf : List Lf → Int → Option Nat
  | [], _ => none
  | y :: L, t => if y.1 = t then some 0 else (nf L t).map (· + 1)
theorem nf_snoc (y : Lf) : ∀ (L : List Lf) (t : Int), nf (L ++ [y]) t = (nf L t).or (if y.1 = t then some L.length else none)
  | [], t => by
    show nf [y] t = _
    rw [nf, nf, nf]
    by_cases h : y.1 = t
    · rw [if_pos h, if_pos h]; rfl
    · rw [if_neg h, if_neg h]; rfl
  | z :: L, t => by
    show nf (z :: (L ++ [y])) t = _
    rw [nf, nf, nf_snoc y L t]
    by_cases h : z.1 = t
    · rw [if_pos h, if_pos h]; rfl
    · rw [if_neg h, if_neg h]
      cases nf L t with
      | none => by_cases h2 : y.1 = t <;> simp [h2]
      | some m => simp
theorem nf_some : ∀ (L : List Lf) (t : Int) (m : Nat), nf L t = some m → ∃ h : m < L.length, L[m].1 = t
  | [], t, m, h => by cases h
  | z :: L, t, m, h => by
    rw [nf] at h
    by_cases hz : z.1 = t
    · rw [if_pos hz] at h
      cases h
      exact ⟨by simp, hz⟩
    · rw [if_neg hz] at h
      cases hn : nf L t with
      | none => rw [hn] at h; cases h
      | some q =>
        rw [hn] at h
        cases h
        obtain ⟨h1, h2⟩ := nf_some L t q hn
        exact ⟨by simp; omega, by simpa using h2⟩
theorem nf_none : ∀ (L : List Lf) (t : Int), nf L t = none ↔ ∀ y ∈ L, y.1 ≠ t
  | [], t => by simp [nf]
  | z :: L, t => by
    rw [nf]
    by_cases hz : z.1 = t
    · rw [if_pos hz]; simp [hz]
    · rw [if_neg hz, Option.map_eq_none_iff, nf_none L t]; simp [hz]
theorem nf_set : ∀ (L : List Lf) (m : Nat) (y : Lf) (t : Int), (∀ h : m < L.length, L[m].1 = y.1) → nf (L.set m y) t = nf L t
  | [], m, y, t, _ => rfl
  | z :: L, 0, y, t, h => by
    have := h (by simp)
    simp only [List.getElem_cons_zero] at this
    rw [List.set_cons_zero, nf, nf, this]
  | z :: L, m + 1, y, t, h => by
    rw [List.set_cons_succ, nf, nf, nf_set L m y t (fun hm => by have := h (by simpa using hm); simpa using this)]
def newL (h : List Ev) (L : List Lf) (x : Fin h.length) : List Lf := if nf L h[x.val].2.1 = none then L ++ [(h[x.val].2.1, x.val, h.length, false)] else L
def numL8 (h : List Ev) (L : List Lf) (x : Fin h.length) : Nat := (nf L h[x.val].2.1).getD L.length
def endS (L : List Lf) (m i : Nat) (b : Bool) : List Lf := L.set m ((L.getD m (0, 0, 0, false)).1, (L.getD m (0, 0, 0, false)).2.1, i, b)
def livS (h : List Ev) (L : List Lf) (x : Fin h.length) : List Lf := if endE h[x.val] then endS (newL h L x) (numL8 h L x) x.val (decide (h[x.val].1 = 4)) else newL h L x
def lvF (h : List Ev) (pre : List (Fin h.length)) : List Lf := pre.foldl (livS h) []
theorem lvF_snoc (h : List Ev) (pre : List (Fin h.length)) (x : Fin h.length) : lvF h (pre ++ [x]) = livS h (lvF h pre) x := by
  unfold lvF
  rw [List.foldl_append]
  rfl
theorem num_lt (h : List Ev) (L : List Lf) (x : Fin h.length) : numL8 h L x < (newL h L x).length := by
  unfold numL8 newL
  cases hn : nf L h[x.val].2.1 with
  | none => rw [if_pos rfl]; simp
  | some m => rw [if_neg (by simp)]; obtain ⟨h1, _⟩ := nf_some _ _ _ hn; exact h1
theorem endS_len (L : List Lf) (m i : Nat) (b : Bool) : (endS L m i b).length = L.length := by unfold endS; rw [List.length_set]
theorem endS_nf (L : List Lf) (m i : Nat) (b : Bool) (t : Int) : nf (endS L m i b) t = nf L t := nf_set L m _ t (fun h => by rw [List.getD_eq_getElem?_getD, List.getElem?_eq_getElem h]; rfl)
theorem new_len (h : List Ev) (L : List Lf) (x : Fin h.length) : (newL h L x).length ≤ L.length + 1 := by
  unfold newL
  by_cases hn : nf L h[x.val].2.1 = none
  · rw [if_pos hn]; simp
  · rw [if_neg hn]; omega
theorem liv_len (h : List Ev) (L : List Lf) (x : Fin h.length) : (livS h L x).length ≤ L.length + 1 := by
  unfold livS
  have := new_len h L x
  by_cases he : endE h[x.val]
  · rw [if_pos he, endS_len]; exact this
  · rw [if_neg he]; exact this
/-- First events up to a place; a life up to it. -/
def fstS (h : List Ev) (k : Nat) : List Nat := (List.range k).filter fun i => decide (fstL h (ev h i).2.1 i = none)
def lifTo (h : List Ev) (k i : Nat) : Lf := match endL h (ev h i).2.1 k with
  | none => ((ev h i).2.1, i, h.length, false)
  | some e => ((ev h i).2.1, i, e, decide ((ev h e).1 = 4))
def livTo (h : List Ev) (k : Nat) : List Lf := (fstS h k).map (lifTo h k)
theorem lifTo_fst (h : List Ev) (k i : Nat) : (lifTo h k i).1 = (ev h i).2.1 := by unfold lifTo; cases endL h (ev h i).2.1 k <;> rfl
theorem endL_grow {h : List Ev} {t : Int} {k e : Nat} (he : endL h t k = some e) : endL h t (k + 1) = some e := by
  rw [endL_some] at he ⊢
  exact ⟨by omega, he.2⟩
theorem endL_other {h : List Ev} {t : Int} {k : Nat} (hn : (ev h k).2.1 ≠ t) : endL h t (k + 1) = endL h t k := by
  cases he : endL h t k with
  | some e => exact endL_grow he
  | none => exact endL_skip h t k he (fun hh => hn hh.1)
theorem lifTo_other {h : List Ev} {k i : Nat} (hn : (ev h k).2.1 ≠ (ev h i).2.1) : lifTo h (k + 1) i = lifTo h k i := by unfold lifTo; rw [endL_other hn]
theorem lifTo_dead {h : List Ev} {k i e : Nat} (he : endL h (ev h i).2.1 k = some e) : lifTo h (k + 1) i = lifTo h k i := by unfold lifTo; rw [endL_grow he, he]
theorem fstS_mem {h : List Ev} {k i : Nat} : i ∈ fstS h k ↔ i < k ∧ fstL h (ev h i).2.1 i = none := by
  unfold fstS
  rw [List.mem_filter, List.mem_range, decide_eq_true_eq]
theorem fstS_one {h : List Ev} {k i j : Nat} (hi : i ∈ fstS h k) (hj : j ∈ fstS h k) (he : (ev h i).2.1 = (ev h j).2.1) : i = j := by
  obtain ⟨i1, i2⟩ := fstS_mem.1 hi
  obtain ⟨j1, j2⟩ := fstS_mem.1 hj
  rcases Nat.lt_trichotomy i j with hl | hl | hl
  · exact absurd he ((fstL_none h _ _).1 j2 i hl)
  · exact hl
  · exact absurd he.symm ((fstL_none h _ _).1 i2 j hl)
theorem fstS_next (h : List Ev) (k : Nat) : fstS h (k + 1) = fstS h k ++ if fstL h (ev h k).2.1 k = none then [k] else [] := by
  unfold fstS
  rw [List.range_succ, List.filter_append]
  congr 1
  by_cases hf : fstL h (ev h k).2.1 k = none
  · rw [if_pos hf, List.filter_cons_of_pos (by rw [decide_eq_true_eq]; exact hf)]; rfl
  · rw [if_neg hf, List.filter_cons_of_neg (by rw [decide_eq_true_eq]; exact hf)]; rfl
theorem fstS_inj (h : List Ev) (k m j : Nat) (hm : m < (fstS h k).length) (hj : j < (fstS h k).length) (he : (fstS h k)[m] = (fstS h k)[j]) : m = j := by
  have hp : (fstS h k).Pairwise (· < ·) := List.Pairwise.filter _ List.pairwise_lt_range
  rw [List.pairwise_iff_getElem] at hp
  rcases Nat.lt_trichotomy m j with hl | hl | hl
  · have := hp m j hm hj hl; omega
  · exact hl
  · have := hp j m hj hm hl; omega
theorem fm_congr {α β : Type} {f g : α → Option β} : ∀ {l : List α}, (∀ i ∈ l, f i = g i) → l.filterMap f = l.filterMap g
  | [], _ => rfl
  | a :: l, hh => by
    rw [List.filterMap_cons, List.filterMap_cons, hh a (by simp), fm_congr (fun i hi => hh i (by simp [hi]))]
theorem livTo_nf (h : List Ev) (k : Nat) (t : Int) : nf (livTo h k) t = none ↔ fstL h t k = none := by
  rw [nf_none]
  constructor
  · intro hh
    cases hf : fstL h t k with
    | none => rfl
    | some f =>
      obtain ⟨f1, f2, f3⟩ := (fstL_some h t k f).1 hf
      have hm : lifTo h k f ∈ livTo h k := List.mem_map.2 ⟨f, fstS_mem.2 ⟨f1, (fstL_none h _ _).2 (by rw [f2]; exact f3)⟩, rfl⟩
      exact absurd ((lifTo_fst h k f).trans f2) (hh _ hm)
  · intro hf y hy
    obtain ⟨i, hi, rfl⟩ := List.mem_map.1 hy
    obtain ⟨i1, i2⟩ := fstS_mem.1 hi
    rw [lifTo_fst]
    exact (fstL_none h t k).1 hf i i1
theorem lives_take (h : List Ev) : ∀ k, k ≤ h.length → lvF h (livF h ((List.finRange h.length).take k)) = livTo h k
  | 0, _ => rfl
  | k + 1, hk => by
    have ih := lives_take h k (by omega)
    have hk' : k < h.length := by omega
    rw [fin_take hk']
    have hd := endedIn_take h k (by omega) h[k].2.1
    have ek := ev_get h k hk'
    cases he : endL h h[k].2.1 k with
    | some e =>
      rw [he] at hd
      rw [livF_snoc_dead h _ ⟨k, hk'⟩ hd, ih]
      obtain ⟨e1, e2, e3⟩ := (endL_some h _ _ _).1 he
      have hf : ¬ fstL h (ev h k).2.1 k = none := by
        intro hf
        rw [ek] at hf
        exact (fstL_none h _ _).1 hf e e1 e2.1
      unfold livTo
      rw [fstS_next, if_neg hf, List.append_nil]
      apply List.map_congr_left
      intro i hi
      by_cases hn : (ev h k).2.1 = (ev h i).2.1
      · exact (lifTo_dead (e := e) (by rw [← hn, ek]; exact he)).symm
      · exact (lifTo_other hn).symm
    | none =>
      rw [he] at hd
      rw [livF_snoc h _ ⟨k, hk'⟩ hd, lvF_snoc, ih]
      by_cases hf : fstL h (ev h k).2.1 k = none
      · have hnf : nf (livTo h k) h[k].2.1 = none := (livTo_nf h k _).2 (by rw [← ek]; exact hf)
        have hnew : newL h (livTo h k) ⟨k, hk'⟩ = livTo h k ++ [(h[k].2.1, k, h.length, false)] := by unfold newL; rw [if_pos hnf]
        have hold : (fstS h k).map (lifTo h (k + 1)) = livTo h k := by
          apply List.map_congr_left
          intro i hi
          obtain ⟨i1, i2⟩ := fstS_mem.1 hi
          exact lifTo_other (fun hh => (fstL_none h _ _).1 hf i i1 hh.symm)
        have hnum : numL8 h (livTo h k) ⟨k, hk'⟩ = (livTo h k).length := by unfold numL8; rw [hnf]; rfl
        have hR : livTo h (k + 1) = livTo h k ++ [lifTo h (k + 1) k] := by
          show (fstS h (k + 1)).map (lifTo h (k + 1)) = _
          rw [fstS_next, if_pos hf, List.map_append, hold]
          rfl
        rw [hR]
        unfold livS
        rw [hnew, hnum]
        by_cases hn : endE h[k]
        · have hE : lifTo h (k + 1) k = (h[k].2.1, k, k, decide (h[k].1 = 4)) := by
            unfold lifTo
            rw [ek, (endL_some h _ _ _).2 ⟨by omega, ⟨by rw [ek], by rw [ek]; exact hn⟩, (endL_none h _ _).1 he⟩]
            simp only [ek]
          rw [if_pos hn, hE]
          unfold endS
          rw [List.set_append_right _ _ (Nat.le_refl _), Nat.sub_self, List.set_cons_zero]
          simp
        · have hE : lifTo h (k + 1) k = (h[k].2.1, k, h.length, false) := by
            unfold lifTo
            rw [ek, endL_skip h _ k he (fun hh => hn (by rw [← ek]; exact hh.2))]
          rw [if_neg hn, hE]
      · have hnf : nf (livTo h k) h[k].2.1 ≠ none := fun hh => hf (by rw [ek]; exact (livTo_nf h k _).1 hh)
        have hnew : newL h (livTo h k) ⟨k, hk'⟩ = livTo h k := by unfold newL; rw [if_neg hnf]
        have hR : livTo h (k + 1) = (fstS h k).map (lifTo h (k + 1)) := by
          show (fstS h (k + 1)).map (lifTo h (k + 1)) = _
          rw [fstS_next, if_neg hf, List.append_nil]
        unfold livS
        rw [hnew, hR]
        by_cases hn : endE h[k]
        · rw [if_pos hn]
          cases hm : nf (livTo h k) h[k].2.1 with
          | none => exact absurd hm hnf
          | some m =>
            obtain ⟨m1, m2⟩ := nf_some _ _ _ hm
            have hnum : numL8 h (livTo h k) ⟨k, hk'⟩ = m := by unfold numL8; rw [hm]; rfl
            have ml : m < (fstS h k).length := by unfold livTo at m1; rwa [List.length_map] at m1
            have mg : (livTo h k)[m] = lifTo h k (fstS h k)[m] := List.getElem_map (lifTo h k)
            rw [mg, lifTo_fst] at m2
            rw [hnum]
            unfold endS
            have hgd : (livTo h k).getD m (0, 0, 0, false) = lifTo h k (fstS h k)[m] := by rw [List.getD_eq_getElem?_getD, List.getElem?_eq_getElem m1, mg]; rfl
            rw [hgd]
            apply List.ext_getElem
            · rw [List.length_set, List.length_map]; unfold livTo; rw [List.length_map]
            · intro j j1 j2
              rw [List.getElem_set, List.getElem_map]
              by_cases hj : m = j
              · subst hj
                rw [if_pos rfl]
                have hE : lifTo h (k + 1) (fstS h k)[m] = (h[k].2.1, (fstS h k)[m], k, decide (h[k].1 = 4)) := by
                  unfold lifTo
                  rw [m2, (endL_some h _ _ _).2 ⟨by omega, ⟨by rw [ek], by rw [ek]; exact hn⟩, (endL_none h _ _).1 he⟩]
                  simp only [ek]
                rw [hE]
                have hO : lifTo h k (fstS h k)[m] = (h[k].2.1, (fstS h k)[m], h.length, false) := by
                  unfold lifTo
                  rw [m2, he]
                rw [hO]
              · rw [if_neg hj]
                have jl : j < (fstS h k).length := by simpa using j2
                have hg : (livTo h k)[j]'(by unfold livTo; simpa using j2) = lifTo h k (fstS h k)[j] := List.getElem_map (lifTo h k)
                rw [hg]
                refine (lifTo_other (fun hh => hj ?_)).symm
                have hsame : (fstS h k)[m] = (fstS h k)[j] := fstS_one (k := k) (List.getElem_mem _) (List.getElem_mem _) (by rw [m2, ← hh, ek])
                exact fstS_inj h k m j ml jl hsame
        · rw [if_neg hn]
          unfold livTo
          apply List.map_congr_left
          intro i hi
          by_cases hx : (ev h k).2.1 = (ev h i).2.1
          · unfold lifTo
            rw [← hx, ek, he, endL_skip h _ k he (fun hh => hn (by rw [← ek]; exact hh.2))]
          · exact (lifTo_other hx).symm
theorem lives_liv (h : List Ev) : lvF h (livP h) = livesL h := by
  have h1 := lives_take h h.length (Nat.le_refl _)
  rw [List.take_of_length_le (by rw [List.length_finRange]; exact Nat.le_refl _)] at h1
  show lvF h (livF h _) = _
  rw [h1]
  unfold livTo livesL fstS
  rw [← List.filterMap_eq_filter, List.map_filterMap]
  apply fm_congr
  intro i hi
  have hil := List.mem_range.1 hi
  simp only [Option.guard]
  by_cases hf : fstL h (ev h i).2.1 i = none
  · have hfn : fstL h (ev h i).2.1 h.length = some i := (fstL_some h _ _ _).2 ⟨hil, rfl, (fstL_none h _ _).1 hf⟩
    rw [if_pos hf]
    unfold findL
    rw [hfn]
    simp only [hf]
    unfold lifTo
    cases he : endL h (ev h i).2.1 h.length <;> simp [he]
  · rw [if_neg hf]
    simp [hf]
theorem lvF_len (h : List Ev) : ∀ (pre : List (Fin h.length)) (L : List Lf), (pre.foldl (livS h) L).length ≤ L.length + pre.length
  | [], L => Nat.le_refl _
  | x :: pre, L => by
    have h1 := lvF_len h pre (livS h L x)
    have h2 := liv_len h L x
    rw [List.foldl_cons, List.length_cons]
    omega
theorem lvF_few (h : List Ev) (pre : List (Fin h.length)) : (lvF h pre).length ≤ pre.length := by have := lvF_len h pre []; simpa [lvF] using this
end Go.Proofs.Ytpmcmohdhicfcaa
namespace Go.Proofs.Ytpmcmohdhicfcaa
set_option maxRecDepth 100000
set_option linter.unusedVariables false
def updN (f : Int → Option Nat) (t : Int) (k : Nat) : Int → Option Nat := fun u => if u = t then some k else f u
/-- What is known of last writes behind an event; the versions. -/
def lastS (h : List Ev) (key : List UInt8) (f : Int → Option Nat) (x : Fin h.length) : Int → Option Nat := if h[x.val].1 = 3 ∧ h[x.val].2.2.1 = key then updN f h[x.val].2.1 x.val else f
def versS (h : List Ev) (key : List UInt8) (s : (Int → Option Nat) × List Nat) (x : Fin h.length) : (Int → Option Nat) × List Nat :=
  (lastS h key s.1 x, if h[x.val].1 = 4 then s.2 ++ (lastS h key s.1 x h[x.val].2.1).toList else s.2)
def versF (h : List Ev) (key : List UInt8) (pre : List (Fin h.length)) : (Int → Option Nat) × List Nat := pre.foldl (versS h key) (fun _ => none, [])
theorem versF_snoc (h : List Ev) (key : List UInt8) (pre : List (Fin h.length)) (x : Fin h.length) : versF h key (pre ++ [x]) = versS h key (versF h key pre) x := by
  unfold versF
  rw [List.foldl_append]
  rfl
theorem versF_len (h : List Ev) (key : List UInt8) (x : Fin h.length) (s : (Int → Option Nat) × List Nat) : (versS h key s x).2.length ≤ s.2.length + 1 := by
  unfold versS
  simp only
  by_cases h4 : h[x.val].1 = 4
  · rw [if_pos h4, List.length_append]
    cases lastS h key s.1 x h[x.val].2.1 <;> simp
  · rw [if_neg h4]; omega
theorem endL_upto {h : List Ev} {t : Int} {k : Nat} (he : endL h t k = none) (hx : (ev h k).2.1 = t) (h4 : (ev h k).1 = 4 ∨ (ev h k).1 = 5) (hk : k < h.length) : endL h t h.length = some k := (endL_some h t h.length k).2 ⟨hk, ⟨hx, h4⟩, (endL_none h t k).1 he⟩
theorem vers_take (h : List Ev) (key : List UInt8) : ∀ k, k ≤ h.length →
    (versF h key (livF h ((List.finRange h.length).take k))).2 = (List.range k).filterMap (verOf h key) ∧ ∀ t, endL h t k = none → (versF h key (livF h ((List.finRange h.length).take k))).1 t = lastN h t key k
  | 0, _ => ⟨rfl, fun t _ => rfl⟩
  | k + 1, hk => by
    obtain ⟨ih1, ih2⟩ := vers_take h key k (by omega)
    have hk' : k < h.length := by omega
    rw [fin_take hk']
    have hd := endedIn_take h k (by omega) h[k].2.1
    have ek := ev_get h k hk'
    rw [List.range_succ, List.filterMap_append]
    cases he : endL h h[k].2.1 k with
    | some e =>
      rw [he] at hd
      rw [livF_snoc_dead h _ ⟨k, hk'⟩ hd]
      constructor
      · rw [ih1]
        have : verOf h key k = none := by
          unfold verOf
          rw [if_neg]
          rintro ⟨_, h2⟩
          rw [ek] at h2
          obtain ⟨e1, e2, e3⟩ := (endL_some h _ _ _).1 he
          exact ((endL_some h _ _ _).1 h2).2.2 e (by omega) e2
        simp [this]
      · intro t ht
        have hne : (ev h k).2.1 ≠ t := by
          intro hh
          rw [ek] at hh
          rw [hh] at he
          obtain ⟨e1, e2, e3⟩ := (endL_some h _ _ _).1 he
          exact (endL_none h t (k + 1)).1 ht e (by omega) e2
        have h0 : endL h t k = none := (endL_none h t k).2 (fun j hj => (endL_none h t (k + 1)).1 ht j (by omega))
        rw [ih2 t h0]
        show _ = la _ (k + 1)
        rw [la, if_neg]
        · rfl
        · unfold isWrT
          rw [decide_eq_true_eq]
          exact fun hh => hne hh.2.1
    | none =>
      rw [he] at hd
      rw [livF_snoc h _ ⟨k, hk'⟩ hd, versF_snoc]
      generalize hs : versF h key (livF h ((List.finRange h.length).take k)) = s at ih1 ih2
      have hl : (lastS h key s.1 ⟨k, hk'⟩) h[k].2.1 = lastN h h[k].2.1 key (k + 1) := by
        show _ = la _ (k + 1)
        rw [la]
        unfold lastS
        simp only
        by_cases hw : h[k].1 = 3 ∧ h[k].2.2.1 = key
        · rw [if_pos hw, if_pos]
          · unfold updN; rw [if_pos rfl]
          · unfold isWrT; rw [ek, decide_eq_true_eq]; exact ⟨hw.1, rfl, hw.2⟩
        · rw [if_neg hw, if_neg]
          · exact ih2 _ he
          · unfold isWrT; rw [ek, decide_eq_true_eq]; exact fun hh => hw ⟨hh.1, hh.2.2⟩
      constructor
      · show (if h[k].1 = 4 then s.2 ++ (lastS h key s.1 ⟨k, hk'⟩ h[k].2.1).toList else s.2) = _
        by_cases h4 : h[k].1 = 4
        · rw [if_pos h4, ih1, hl]
          have h3 : ¬ isWrT h h[k].2.1 key k = true := by
            unfold isWrT; rw [ek, decide_eq_true_eq]; rintro ⟨hh, _⟩; rw [h4] at hh; cases hh
          have : verOf h key k = lastN h h[k].2.1 key (k + 1) := by
            unfold verOf
            rw [ek, if_pos ⟨h4, endL_upto he (by rw [ek]) (by rw [ek]; exact Or.inl h4) hk'⟩]
            show _ = la _ (k + 1)
            rw [la, if_neg h3]
            rfl
          rw [← this]
          have e : List.filterMap (verOf h key) [k] = (verOf h key k).toList := by cases hv : verOf h key k <;> simp [hv]
          rw [e]
        · rw [if_neg h4, ih1]
          have : verOf h key k = none := by
            unfold verOf
            rw [if_neg]
            rintro ⟨h1, _⟩
            rw [ek] at h1
            exact h4 h1
          simp [this]
      · intro t ht
        by_cases hne : h[k].2.1 = t
        · subst hne; exact hl
        · have h0 : endL h t k = none := (endL_none h t k).2 (fun j hj => (endL_none h t (k + 1)).1 ht j (by omega))
          show lastS h key s.1 ⟨k, hk'⟩ t = la _ (k + 1)
          rw [la, if_neg]
          · unfold lastS
            simp only
            by_cases hw : h[k].1 = 3 ∧ h[k].2.2.1 = key
            · rw [if_pos hw]
              unfold updN
              rw [if_neg (fun e => hne e.symm)]
              exact ih2 t h0
            · rw [if_neg hw]; exact ih2 t h0
          · unfold isWrT
            rw [ek, decide_eq_true_eq]
            exact fun hh => hne hh.2.1
theorem vers_liv (h : List Ev) (key : List UInt8) : (versF h key (livP h)).2 = versL h key := by
  have := (vers_take h key h.length (Nat.le_refl _)).1
  rwa [List.take_of_length_le (by rw [List.length_finRange]; exact Nat.le_refl _)] at this
end Go.Proofs.Ytpmcmohdhicfcaa
namespace Go.Proofs.Ytpmcmohdhicfcaa
set_option maxRecDepth 100000
set_option linter.unusedVariables false
theorem lives_len (h : List Ev) : (livesL h).length ≤ h.length := by
  unfold livesL
  have := List.length_filterMap_le (fun i => if fstL h (ev h i).2.1 i = none then findL h (ev h i).2.1 else none) (List.range h.length)
  rw [List.length_range] at this
  exact this
theorem vers_len (h : List Ev) (key : List UInt8) : (versL h key).length ≤ h.length := by
  unfold versL
  have := List.length_filterMap_le (verOf h key) (List.range h.length)
  rw [List.length_range] at this
  exact this
theorem keysF_len : ∀ (l : List Ev) (acc : List (List UInt8)), (keysF acc l).length ≤ acc.length + l.length
  | [], acc => by rw [keysF]; simp
  | x :: l, acc => by
    rw [keysF]
    have h1 := keysF_len l (if keyedE x.1 then insK x.2.2.1 acc else acc)
    have h2 : (if keyedE x.1 then insK x.2.2.1 acc else acc).length ≤ acc.length + 1 := by
      by_cases hk : keyedE x.1
      · rw [if_pos hk]; exact insK_len _ _
      · rw [if_neg hk]; omega
    simp only [List.length_cons]
    omega
theorem keys_len (h : List Ev) : (keysL h).length ≤ h.length := by
  have := keysF_len h []
  simpa [keysL] using this
end Go.Proofs.Ytpmcmohdhicfcaa
namespace Go.Proofs.Ytpmcmohdhicfcaa
set_option maxRecDepth 100000
open Go.RowKit
set_option linter.unusedVariables false
theorem own_empty8 (w : World) (e k : Nat) : (w.alloc (.cells #[] e)).ownsRow w.heap.size e k (.slice (some ⟨w.heap.size, 0, none⟩) 0 0) 0 [] :=
  ⟨by simp, .inr ⟨w.heap.size, 0, #[], rfl, Nat.le_refl _, SBox.new w e #[], Nat.le_refl _, by unfold maxLen; omega, by simp, by simp⟩⟩
theorem rec_src8 {α : Type} {sz : Nat} {enc : α → List Value} (hz : ∀ x, (enc x).length = sz) (hs : 0 < sz) {W : World} {b off : Nat} {L : List α} (h : ∀ i (h : i < L.length) j u, (enc L[i])[j]? = some u → W.cell? ⟨b, off + i * sz + j, none⟩ = some u) : ∀ j u, (recV enc L)[j]? = some u → W.cell? ((⟨b, off, none⟩ : Addr).add j) = some u := by
  intro j u hu
  have hj : j < L.length * sz := by
    have := (List.getElem?_eq_some_iff.1 hu).1
    rwa [recV_length hz] at this
  have hi : j / sz < L.length := (Nat.div_lt_iff_lt_mul hs).2 hj
  have hm : j % sz < sz := Nat.mod_lt _ hs
  have e : j / sz * sz + j % sz = j := by rw [Nat.mul_comm]; exact Nat.div_add_mod j sz
  have g := recV_get hz L (j / sz) hi (j % sz) hm
  rw [e, hu] at g
  have := h (j / sz) hi (j % sz) u g.symm
  rw [Nat.add_assoc, e] at this
  have ea : (⟨b, off, none⟩ : Addr).add j = ⟨b, off + j, none⟩ := by simp [Addr.add]
  rw [ea]
  exact this
/-- Of a slice that is a row of records: its cells, at whatever later world. -/
theorem IsRec.src {α : Type} {sz : Nat} {enc : α → List Value} (hz : ∀ x, (enc x).length = sz) (hs : 0 < sz) {w W : World} {ad : Addr} {n c : Nat} {L : List α} (h : IsRec sz enc w (.slice (some ad) n c) L) (hb : Below w.heap.size w W) : ∀ j u, (recV enc L)[j]? = some u → W.cell? (ad.add j) = some u := by
  by_cases h0 : L = []
  · subst h0; intro j u hu; simp [recV] at hu
  · obtain ⟨a, n', c', hv, h1, _, _, _, h6⟩ := h
    obtain ⟨rfl, rfl, rfl⟩ : a = some ad ∧ n' = n ∧ c' = c := by simpa [eq_comm] using hv
    rcases h6 with h6 | ⟨b, off, hb', hlt, hc⟩
    · exact absurd (List.length_eq_zero_iff.1 (by omega)) h0
    · obtain rfl : ad = ⟨b, off, none⟩ := by simpa using hb'
      refine rec_src8 hz hs (fun i hi j u hu => ?_)
      exact (hb.cell (p := ⟨b, off + i * sz + j, none⟩) hlt).trans (hc i hi j u hu)
theorem own_slice9 {W : World} {B e k n : Nat} {v : Value} {xs : List Value} (h : W.ownsRow B e k v n xs) : ∃ g c, v = .slice g n c ∧ n ≤ c := by
  rcases h.2 with ⟨rfl, rfl⟩ | ⟨g, cap, cur, rfl, _, _, hc, _⟩
  · exact ⟨_, _, rfl, Nat.le_refl _⟩
  · exact ⟨_, _, rfl, hc⟩
end Go.Proofs.Ytpmcmohdhicfcaa
namespace Go.Proofs.Ytpmcmohdhicfcaa
set_option maxRecDepth 100000
open Go.RowKit Go.Maps
set_option linter.unusedVariables false
theorem grown_below8 {a b : World} (x : Option Nat) (h : Below a.heap.size a b) : a.grownBy b x := ⟨h.os, h.tape, h.output, h.size, fun i hi _ => h.block i hi⟩
theorem law8i : Keyed Try.prog 3 := int_keyed Try.underlying3
theorem law8s : Keyed Try.prog 9 := string_keyed Try.underlying9
theorem zero8i (w : World) : (zeroValue 3).run Try.prog w = .ok (.int .i64 0) w := by kernel_rfl
abbrev I64 (t : Int) : Prop := -9223372036854775808 ≤ t ∧ t ≤ 9223372036854775807
theorem key8i {t : Int} (ht : I64 t) : keyOf Try.prog 3 (.int .i64 t) = some (.int .i64 t) := keyOf_int_mk Try.underlying3 (WalkArith.wf_i64 ht)
theorem key8s {t : List UInt8} (ht : t.length ≤ 9223372036854775807) : keyOf Try.prog 9 (.string ⟨t.toArray⟩) = some (.string t) := by
  have := Go.WideMaps.keyOf_string_mk (P := Try.prog) (k := 9) (s := ⟨t.toArray⟩) Try.underlying9 (by rw [ba_size]; unfold maxLen; omega)
  simpa using this
/-- Numbers by numbers. -/
def IMap (W : World) (b n : Nat) (f : Int → Option Int) : Prop :=
  ∃ D : DataW Unit, W.ownsMap Try.prog 3 (plainElem Try.prog 3) b n D ∧ ∀ t : Int, Maps.has D (.int .i64 t) = (f t).isSome ∧ ∀ k, f t = some k → D.atKey (.int .i64 t) (.lit (.int .i64 0)) = .lit (.int .i64 k)
/-- A set of numbers; of texts. -/
def ISet (W : World) (b n : Nat) (p : Int → Bool) : Prop :=
  ∃ D : DataW Unit, W.ownsMap Try.prog 3 unitElem b n D ∧ ∀ t : Int, Maps.has D (.int .i64 t) = p t
def TSet (W : World) (b n : Nat) (p : List UInt8 → Bool) : Prop :=
  ∃ D : DataW Unit, W.ownsMap Try.prog 9 unitElem b n D ∧ ∀ t : List UInt8, Maps.has D (.string t) = p t
section
variable {W W' : World} {b n m B : Nat} {row : Option Nat}
theorem IMap.kept {f : Int → Option Int} (h : IMap W b n f) (hg : W.grownBy W' row) (hne : some b ≠ row) : IMap W' b n f := by
  obtain ⟨D, h1, h2⟩ := h; exact ⟨D, h1.kept hg hne, h2⟩
theorem ISet.kept {p : Int → Bool} (h : ISet W b n p) (hg : W.grownBy W' row) (hne : some b ≠ row) : ISet W' b n p := by
  obtain ⟨D, h1, h2⟩ := h; exact ⟨D, h1.kept hg hne, h2⟩
theorem TSet.kept {p : List UInt8 → Bool} (h : TSet W b n p) (hg : W.grownBy W' row) (hne : some b ≠ row) : TSet W' b n p := by
  obtain ⟨D, h1, h2⟩ := h; exact ⟨D, h1.kept hg hne, h2⟩
theorem IMap.same {f : Int → Option Int} (h : IMap W b n f) (hb : W'.heap[b]? = W.heap[b]?) : IMap W' b n f := by
  obtain ⟨D, ⟨es, clock, h1, h2⟩, h3⟩ := h; exact ⟨D, ⟨es, clock, hb.trans h1, h2⟩, h3⟩
theorem ISet.same {p : Int → Bool} (h : ISet W b n p) (hb : W'.heap[b]? = W.heap[b]?) : ISet W' b n p := by
  obtain ⟨D, ⟨es, clock, h1, h2⟩, h3⟩ := h; exact ⟨D, ⟨es, clock, hb.trans h1, h2⟩, h3⟩
theorem TSet.same {p : List UInt8 → Bool} (h : TSet W b n p) (hb : W'.heap[b]? = W.heap[b]?) : TSet W' b n p := by
  obtain ⟨D, ⟨es, clock, h1, h2⟩, h3⟩ := h; exact ⟨D, ⟨es, clock, hb.trans h1, h2⟩, h3⟩
theorem IMap.bel {f : Int → Option Int} (h : IMap W b n f) (hb : Below B W W') (hlt : b < B) : IMap W' b n f := h.same (hb.block b hlt)
theorem ISet.bel {p : Int → Bool} (h : ISet W b n p) (hb : Below B W W') (hlt : b < B) : ISet W' b n p := h.same (hb.block b hlt)
theorem TSet.bel {p : List UInt8 → Bool} (h : TSet W b n p) (hb : Below B W W') (hlt : b < B) : TSet W' b n p := h.same (hb.block b hlt)
theorem IMap.lt {f : Int → Option Int} (h : IMap W b n f) : b < W.heap.size := by obtain ⟨D, h1, h2⟩ := h; exact h1.lt
theorem ISet.lt {p : Int → Bool} (h : ISet W b n p) : b < W.heap.size := by obtain ⟨D, h1, h2⟩ := h; exact h1.lt
theorem TSet.lt {p : List UInt8 → Bool} (h : TSet W b n p) : b < W.heap.size := by obtain ⟨D, h1, h2⟩ := h; exact h1.lt
theorem IMap.mono {f : Int → Option Int} (h : IMap W b n f) (hn : n ≤ m) : IMap W b m f := by obtain ⟨D, h1, h2⟩ := h; exact ⟨D, h1.mono hn, h2⟩
theorem ISet.mono {p : Int → Bool} (h : ISet W b n p) (hn : n ≤ m) : ISet W b m p := by obtain ⟨D, h1, h2⟩ := h; exact ⟨D, h1.mono hn, h2⟩
theorem TSet.mono {p : List UInt8 → Bool} (h : TSet W b n p) (hn : n ≤ m) : TSet W b m p := by obtain ⟨D, h1, h2⟩ := h; exact ⟨D, h1.mono hn, h2⟩
theorem IMap.made (w : World) : IMap (w.alloc (.map #[] 0)) w.heap.size 0 (fun _ => none) := ⟨.map [], World.ownsMap_made w _ _ _, fun t => ⟨rfl, fun k h => by cases h⟩⟩
theorem ISet.made (w : World) : ISet (w.alloc (.map #[] 0)) w.heap.size 0 (fun _ => false) := ⟨.map [], World.ownsMap_made w _ _ _, fun t => rfl⟩
theorem TSet.made (w : World) : TSet (w.alloc (.map #[] 0)) w.heap.size 0 (fun _ => false) := ⟨.map [], World.ownsMap_made w _ _ _, fun t => rfl⟩
/-- What is known behind a store. -/
def updI (f : Int → Option Int) (t k : Int) : Int → Option Int := fun u => if u = t then some k else f u
theorem IMap.put {f : Int → Option Int} {D : DataW Unit} (hd : ∀ t : Int, Maps.has D (.int .i64 t) = (f t).isSome ∧ ∀ k, f t = some k → D.atKey (.int .i64 t) (.lit (.int .i64 0)) = .lit (.int .i64 k)) (hm : IsMap D) (t k : Int)
    (h : W.ownsMap Try.prog 3 (plainElem Try.prog 3) b n (D.put (.int .i64 t) (.lit (.int .i64 k)))) : IMap W b n (updI f t k) := by
  refine ⟨_, h, fun u => ?_⟩
  unfold updI
  by_cases hu : u = t
  · subst hu
    rw [if_pos rfl]
    refine ⟨?_, fun c hc => ?_⟩
    · rw [has_put_same hm (show WideAt.IsKeyLit (.int .i64 u) from trivial)]; rfl
    · rw [atKey_put_same hm (show WideAt.IsKeyLit (.int .i64 u) from trivial)]
      simp at hc
      rw [hc]
  · rw [if_neg hu]
    have hne : (Lit.int .i64 u) ≠ Lit.int .i64 t := fun h => hu (by cases h; rfl)
    refine ⟨?_, fun c hc => ?_⟩
    · rw [has_put_other hne]; exact (hd u).1
    · rw [atKey_put_other hne]; exact (hd u).2 c hc
theorem ISet.put {p : Int → Bool} {D : DataW Unit} (hd : ∀ t : Int, Maps.has D (.int .i64 t) = p t) (hm : IsMap D) (t : Int) (h : W.ownsMap Try.prog 3 unitElem b n (D.put (.int .i64 t) (.agg []))) : ISet W b n (fun u => p u || decide (t = u)) := by
  refine ⟨_, h, fun u => ?_⟩
  by_cases hu : u = t
  · subst hu
    rw [has_put_same hm (show WideAt.IsKeyLit (.int .i64 u) from trivial)]
    simp
  · have hne : (Lit.int .i64 u) ≠ Lit.int .i64 t := fun h => hu (by cases h; rfl)
    rw [has_put_other hne, hd u]
    show p u = (p u || decide (t = u))
    rw [decide_eq_false (fun e : t = u => hu e.symm), Bool.or_false]
theorem TSet.put {p : List UInt8 → Bool} {D : DataW Unit} (hd : ∀ t : List UInt8, Maps.has D (.string t) = p t) (hm : IsMap D) (t : List UInt8) (h : W.ownsMap Try.prog 9 unitElem b n (D.put (.string t) (.agg []))) : TSet W b n (fun u => p u || decide (t = u)) := by
  refine ⟨_, h, fun u => ?_⟩
  by_cases hu : u = t
  · subst hu
    rw [has_put_same hm (show WideAt.IsKeyLit (.string u) from trivial)]
    simp
  · have hne : (Lit.string u) ≠ Lit.string t := fun h => hu (by cases h; rfl)
    rw [has_put_other hne, hd u]
    show p u = (p u || decide (t = u))
    rw [decide_eq_false (fun e : t = u => hu e.symm), Bool.or_false]
end
end Go.Proofs.Ytpmcmohdhicfcaa
