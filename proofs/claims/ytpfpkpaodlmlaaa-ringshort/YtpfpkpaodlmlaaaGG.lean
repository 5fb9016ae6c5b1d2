/-
  A row of numbers sorted and made compact: each once, rising: in lists.
  Numbers that are left, and steps between them: counts and places: in lists.
  Maps by whole numbers whose elements are whatever values: made, read, written, struck from: of no program but for the types.
  What (ring.web).has and more do.
  Rows of numbers, cut and joined; where steps begin, as a loop finds it: of no program.
  What a call leaves as it was, that writes a variable and the row that it bears alone: of no program but for the types.
  A web as ring.weave makes it, in memory; what is read of it while only the map of those that are left turns.
  Two maps of numbers and places, side by side, whose rows grow: of no program but for the types.
-/
import Derived.Test.YtpfpkpaodlmlaaaGA
import Derived.Lib.SlicesCompact
import Derived.Test.YtpfpkpaodlmlaaaGE
import Derived.Test.YtpfpkpaodlmlaaaGD
import Derived.Test.YtpfpkpaodlmlaaaGC
import Derived.Lib.Hide
import Derived.Test.YtpfpkpaodlmlaaaGF
namespace Go.Proofs.Ytpfpkpaodlmlaaa
set_option maxRecDepth 100000
set_option linter.unusedVariables false
/-- Each number of some once, rising. -/
def NumsOf (nodes N : List Int) : Prop := N.Pairwise (· < ·) ∧ (∀ x, x ∈ N ↔ x ∈ nodes) ∧ N.length ≤ nodes.length
theorem NumsOf.nodup {nodes N : List Int} (h : NumsOf nodes N) : N.Nodup := by
  rw [List.nodup_iff_pairwise_ne]
  exact h.1.imp (fun hab he => by omega)
theorem keeps_iff (L : List Int) (j : Nat) (hj : j < L.length) : Lib.keeps L.toArray j = true ↔ (j = 0 ∨ L[j] ≠ L[j - 1]'(by omega)) := by
  unfold Lib.keeps
  rw [decide_eq_true_eq]
  have e1 : L.toArray[j]! = L[j] := by simp [getElem!_pos, hj]
  have e2 : L.toArray[j - 1]! = L[j - 1]'(by omega) := by
    have : j - 1 < L.length := by omega
    simp [getElem!_pos, this]
  rw [e1, e2]
theorem comp_get (L : List Int) (j : Nat) (hj : j < L.length) : L.toArray[j]! = L[j] := by simp [getElem!_pos, hj]
theorem compact_sorted (L : List Int) (hs : L.Pairwise (· ≤ ·)) : (Lib.compact L).Pairwise (· < ·) ∧ ∀ x, x ∈ Lib.compact L ↔ x ∈ L := by
  unfold Lib.compact Lib.compactUpTo
  have hp := List.pairwise_iff_getElem.1 hs
  refine ⟨?_, fun x => ?_⟩
  · rw [List.pairwise_map]
    have hr : ((List.range L.length).filter (Lib.keeps L.toArray)).Pairwise (· < ·) := List.Pairwise.filter _ List.pairwise_lt_range
    refine List.Pairwise.imp_of_mem ?_ hr
    intro i j hi hj hij
    obtain ⟨hi1, _⟩ := List.mem_filter.1 hi
    obtain ⟨hj1, hj2⟩ := List.mem_filter.1 hj
    have hi1 := List.mem_range.1 hi1
    have hj1 := List.mem_range.1 hj1
    rw [comp_get L i hi1, comp_get L j hj1]
    rcases (keeps_iff L j hj1).1 hj2 with h | h
    · omega
    · have h1 : L[j - 1]'(by omega) ≤ L[j] := hp (j - 1) j (by omega) hj1 (by omega)
      have h2 : L[i] ≤ L[j - 1]'(by omega) := by
        rcases Nat.lt_or_ge i (j - 1) with h' | h'
        · exact hp i (j - 1) hi1 (by omega) h'
        · have : i = j - 1 := by omega
          subst this
          exact Int.le_refl _
      omega
  · rw [List.mem_map]
    constructor
    · rintro ⟨j, hj, rfl⟩
      have hj1 := List.mem_range.1 (List.mem_filter.1 hj).1
      rw [comp_get L j hj1]
      exact List.getElem_mem hj1
    · intro hx
      obtain ⟨j, hj, rfl⟩ := List.getElem_of_mem hx
      have hfirst : ∀ j (hj : j < L.length), ∃ i, ∃ hi : i < L.length, L[i] = L[j] ∧ Lib.keeps L.toArray i = true := by
        intro j
        induction j with
        | zero => intro hj; exact ⟨0, hj, rfl, (keeps_iff L 0 hj).2 (.inl rfl)⟩
        | succ j ih =>
          intro hj
          by_cases h : L[j + 1] = L[j]'(by omega)
          · obtain ⟨i, hi, e, k⟩ := ih (by omega)
            exact ⟨i, hi, e.trans h.symm, k⟩
          · exact ⟨j + 1, hj, rfl, (keeps_iff L (j + 1) hj).2 (.inr (by simpa using h))⟩
      obtain ⟨i, hi, e, k⟩ := hfirst j hj
      exact ⟨i, List.mem_filter.2 ⟨List.mem_range.2 hi, k⟩, by rw [comp_get L i hi]; exact e⟩
theorem nums_of (L : List Int) : NumsOf L (Lib.compact (L.mergeSort fun x y => decide (x ≤ y))) := by
  have hs : (L.mergeSort fun x y => decide (x ≤ y)).Pairwise (· ≤ ·) := by
    have := List.pairwise_mergeSort (le := fun x y => decide (x ≤ y)) (fun a b c h1 h2 => by simp at *; omega) (fun a b => by simp; omega) L
    exact this.imp (fun h => by simpa using h)
  obtain ⟨h1, h2⟩ := compact_sorted _ hs
  refine ⟨h1, fun x => by rw [h2 x]; exact List.mem_mergeSort, ?_⟩
  unfold Lib.compact Lib.compactUpTo
  rw [List.length_map]
  have := List.length_filter_le (Lib.keeps (L.mergeSort fun x y => decide (x ≤ y)).toArray) (List.range (L.mergeSort fun x y => decide (x ≤ y)).length)
  rw [List.length_range] at this
  rw [List.length_mergeSort] at this ⊢
  exact this
end Go.Proofs.Ytpfpkpaodlmlaaa
namespace Go.Proofs.Ytpfpkpaodlmlaaa
set_option maxRecDepth 100000
set_option linter.unusedVariables false
def stA (l : List Stp) (i : Nat) : Stp := l.getD i (0, 0, [])
theorem stA_at (l : List Stp) (i : Nat) (h : i < l.length) : stA l i = l[i] := by simp [stA, h]
theorem stA_mem (l : List Stp) (i : Nat) (h : i < l.length) : stA l i ∈ l := by rw [stA_at l i h]; exact List.getElem_mem h
/-- How many steps lead to x from one of S; from x to one of S. -/
def inC (l : List Stp) (S : Int → Bool) (x : Int) : Nat := l.countP fun s => decide (s.2.1 = x) && S s.1
def outC (l : List Stp) (S : Int → Bool) (x : Int) : Nat := l.countP fun s => decide (s.1 = x) && S s.2.1
/-- The places of the steps between those of S that begin at x; that end there (of the first k). -/
def frK (l : List Stp) (S : Int → Bool) (k : Nat) (x : Int) : List Nat := (List.range k).filter fun i => decide ((stA l i).1 = x) && (S (stA l i).1 && S (stA l i).2.1)
def toK (l : List Stp) (S : Int → Bool) (k : Nat) (x : Int) : List Nat := (List.range k).filter fun i => decide ((stA l i).2.1 = x) && (S (stA l i).1 && S (stA l i).2.1)
abbrev frL (l : List Stp) (S : Int → Bool) (x : Int) : List Nat := frK l S l.length x
abbrev toL (l : List Stp) (S : Int → Bool) (x : Int) : List Nat := toK l S l.length x
theorem frK_lt (l : List Stp) (S : Int → Bool) (k : Nat) (x : Int) : ∀ i ∈ frK l S k x, i < k := fun i hi => List.mem_range.1 (List.mem_filter.1 hi).1
theorem toK_lt (l : List Stp) (S : Int → Bool) (k : Nat) (x : Int) : ∀ i ∈ toK l S k x, i < k := fun i hi => List.mem_range.1 (List.mem_filter.1 hi).1
theorem frK_len (l : List Stp) (S : Int → Bool) (k : Nat) (x : Int) : (frK l S k x).length ≤ k := by
  have := List.length_filter_le (fun i => decide ((stA l i).1 = x) && (S (stA l i).1 && S (stA l i).2.1)) (List.range k)
  rw [List.length_range] at this
  exact this
theorem toK_len (l : List Stp) (S : Int → Bool) (k : Nat) (x : Int) : (toK l S k x).length ≤ k := by
  have := List.length_filter_le (fun i => decide ((stA l i).2.1 = x) && (S (stA l i).1 && S (stA l i).2.1)) (List.range k)
  rw [List.length_range] at this
  exact this
theorem fr_mem (l : List Stp) (S : Int → Bool) (x : Int) (i : Nat) : i ∈ frL l S x ↔ i < l.length ∧ (stA l i).1 = x ∧ S x = true ∧ S (stA l i).2.1 = true := by
  unfold frL frK
  rw [List.mem_filter, List.mem_range]
  simp only [Bool.and_eq_true, decide_eq_true_eq]
  constructor
  · rintro ⟨h1, h2, h3, h4⟩; exact ⟨h1, h2, by rw [← h2]; exact h3, h4⟩
  · rintro ⟨h1, h2, h3, h4⟩; exact ⟨h1, h2, by rw [h2]; exact h3, h4⟩
theorem to_mem (l : List Stp) (S : Int → Bool) (x : Int) (i : Nat) : i ∈ toL l S x ↔ i < l.length ∧ (stA l i).2.1 = x ∧ S (stA l i).1 = true ∧ S x = true := by
  unfold toL toK
  rw [List.mem_filter, List.mem_range]
  simp only [Bool.and_eq_true, decide_eq_true_eq]
  constructor
  · rintro ⟨h1, h2, h3, h4⟩; exact ⟨h1, h2, h3, by rw [← h2]; exact h4⟩
  · rintro ⟨h1, h2, h3, h4⟩; exact ⟨h1, h2, h3, by rw [h2]; exact h4⟩
/-- How many steps, of the first k: as they are counted. -/
def inK (l : List Stp) (S : Int → Bool) (k : Nat) (x : Int) : Nat := (l.take k).countP fun s => decide (s.2.1 = x) && (S s.1 && S s.2.1)
def outK (l : List Stp) (S : Int → Bool) (k : Nat) (x : Int) : Nat := (l.take k).countP fun s => decide (s.1 = x) && (S s.1 && S s.2.1)
theorem inK_le (l : List Stp) (S : Int → Bool) (k : Nat) (x : Int) : inK l S k x ≤ k := Nat.le_trans List.countP_le_length (by rw [List.length_take]; omega)
theorem outK_le (l : List Stp) (S : Int → Bool) (k : Nat) (x : Int) : outK l S k x ≤ k := Nat.le_trans List.countP_le_length (by rw [List.length_take]; omega)
theorem countP_same {α : Type} {p q : α → Bool} {l : List α} (h : ∀ x ∈ l, p x = q x) : l.countP p = l.countP q := by
  rw [List.countP_eq_length_filter, List.countP_eq_length_filter, List.filter_congr h]
theorem inK_all (l : List Stp) (S : Int → Bool) (x : Int) (hx : S x = true) : inK l S l.length x = inC l S x := by
  unfold inK inC
  rw [List.take_length]
  refine countP_same fun s _ => ?_
  by_cases h : s.2.1 = x
  · rw [h, hx]; simp
  · simp [h]
theorem outK_all (l : List Stp) (S : Int → Bool) (x : Int) (hx : S x = true) : outK l S l.length x = outC l S x := by
  unfold outK outC
  rw [List.take_length]
  refine countP_same fun s _ => ?_
  by_cases h : s.1 = x
  · rw [h, hx]; simp
  · simp [h]
/-- What is known of each number: how many steps lead to it, and out of it. -/
abbrev Cnt := Int → Option (Int × Int)
def cntF (l : List Stp) (S : Int → Bool) : Cnt := fun x => if S x then some ((inC l S x : Int), (outC l S x : Int)) else none
def cntK (l : List Stp) (S : Int → Bool) (k : Nat) : Cnt := fun x => if S x then some ((inK l S k x : Int), (outK l S k x : Int)) else none
theorem cntK_all (l : List Stp) (S : Int → Bool) : cntK l S l.length = cntF l S := by
  funext x
  unfold cntK cntF
  by_cases h : S x = true
  · rw [if_pos h, if_pos h, inK_all l S x h, outK_all l S x h]
  · rw [if_neg h, if_neg h]
def updC (c : Cnt) (x : Int) (p : Int × Int) : Cnt := fun u => if u = x then some p else c u
def delC (c : Cnt) (x : Int) : Cnt := fun u => if u = x then none else c u
theorem take_count {α : Type} (p : α → Bool) (l : List α) (k : Nat) (h : k < l.length) : (l.take (k + 1)).countP p = (l.take k).countP p + (if p l[k] then 1 else 0) := by
  rw [List.take_succ_eq_append_getElem h, List.countP_append]
  simp [List.countP_cons]
/-- One step more that does not count. -/
theorem cntK_no (l : List Stp) (S : Int → Bool) (k : Nat) (h : k < l.length) (hn : (S (stA l k).1 && S (stA l k).2.1) = false) : cntK l S (k + 1) = cntK l S k := by
  rw [stA_at l k h] at hn
  funext x
  unfold cntK inK outK
  rw [take_count _ l k h, take_count _ l k h, hn]
  simp
theorem frK_no (l : List Stp) (S : Int → Bool) (k : Nat) (hn : (S (stA l k).1 && S (stA l k).2.1) = false) : frK l S (k + 1) = frK l S k := by
  funext x
  unfold frK
  rw [List.range_succ, List.filter_append]
  simp [hn]
theorem toK_no (l : List Stp) (S : Int → Bool) (k : Nat) (hn : (S (stA l k).1 && S (stA l k).2.1) = false) : toK l S (k + 1) = toK l S k := by
  funext x
  unfold toK
  rw [List.range_succ, List.filter_append]
  simp [hn]
/-- One that does. -/
theorem cntK_yes (l : List Stp) (S : Int → Bool) (k : Nat) (h : k < l.length) (h1 : S (stA l k).1 = true) (h2 : S (stA l k).2.1 = true) :
    ∃ p q, cntK l S k (stA l k).1 = some p ∧ updC (cntK l S k) (stA l k).1 (p.1, p.2 + 1) (stA l k).2.1 = some q ∧ cntK l S (k + 1) = updC (updC (cntK l S k) (stA l k).1 (p.1, p.2 + 1)) (stA l k).2.1 (q.1 + 1, q.2) ∧ 0 ≤ p.1 ∧ p.1 ≤ k ∧ 0 ≤ p.2 ∧ p.2 ≤ k ∧ 0 ≤ q.1 ∧ q.1 ≤ k ∧ 0 ≤ q.2 ∧ q.2 ≤ k + 1 := by
  rw [stA_at l k h] at h1 h2 ⊢
  obtain ⟨a, ha⟩ : ∃ a, l[k].1 = a := ⟨_, rfl⟩
  obtain ⟨b, hb⟩ : ∃ b, l[k].2.1 = b := ⟨_, rfl⟩
  have hI : ∀ x, inK l S (k + 1) x = inK l S k x + (if b = x then 1 else 0) := fun x => by
    unfold inK
    rw [take_count _ l k h, h1, h2, hb]
    simp
  have hO : ∀ x, outK l S (k + 1) x = outK l S k x + (if a = x then 1 else 0) := fun x => by
    unfold outK
    rw [take_count _ l k h, h1, h2, ha]
    simp
  rw [ha] at h1 ⊢
  rw [hb] at h2 ⊢
  have iA := inK_le l S k a
  have oA := outK_le l S k a
  have iB := inK_le l S k b
  have oB := outK_le l S k b
  refine ⟨((inK l S k a : Int), (outK l S k a : Int)), ((inK l S k b : Int), ((outK l S k b + (if b = a then 1 else 0) : Nat) : Int)), ?_, ?_, ?_, by omega, by omega, by omega, by omega, by omega, by omega, by omega, by split <;> omega⟩
  · unfold cntK; rw [if_pos h1]
  · unfold updC cntK
    by_cases e : b = a
    · subst e; simp
    · rw [if_neg e, if_pos h2, if_neg e]; simp
  · funext x
    unfold updC cntK
    rw [hI x, hO x]
    by_cases e1 : x = b
    · subst e1
      rw [if_pos h2, if_pos rfl, if_pos rfl]
      by_cases e2 : a = x
      · subst e2; simp
      · rw [if_neg e2, if_neg (fun e => e2 e.symm)]; simp
    · rw [if_neg e1, if_neg (fun e : b = x => e1 e.symm)]
      by_cases e2 : x = a
      · subst e2; rw [if_pos h1, if_pos rfl, if_pos rfl]; simp
      · rw [if_neg e2, if_neg (fun e : a = x => e2 e.symm)]; simp
theorem frK_yes (l : List Stp) (S : Int → Bool) (k : Nat) (h1 : S (stA l k).1 = true) (h2 : S (stA l k).2.1 = true) (x : Int) : frK l S (k + 1) x = if x = (stA l k).1 then frK l S k x ++ [k] else frK l S k x := by
  unfold frK
  rw [List.range_succ, List.filter_append]
  by_cases e : x = (stA l k).1
  · rw [if_pos e, e]; simp [h1, h2]
  · rw [if_neg e]
    have e' : ¬ (stA l k).1 = x := fun h => e h.symm
    simp [e']
theorem toK_yes (l : List Stp) (S : Int → Bool) (k : Nat) (h1 : S (stA l k).1 = true) (h2 : S (stA l k).2.1 = true) (x : Int) : toK l S (k + 1) x = if x = (stA l k).2.1 then toK l S k x ++ [k] else toK l S k x := by
  unfold toK
  rw [List.range_succ, List.filter_append]
  by_cases e : x = (stA l k).2.1
  · rw [if_pos e, e]; simp [h1, h2]
  · rw [if_neg e]
    have e' : ¬ (stA l k).2.1 = x := fun h => e h.symm
    simp [e']
end Go.Proofs.Ytpfpkpaodlmlaaa
namespace Go.Proofs.Ytpfpkpaodlmlaaa
set_option maxRecDepth 100000
open Go.RowKit Go.Maps
set_option linter.unusedVariables false
/-- An element reads as itself. -/
def rawE (v : Value) : Option (DataW Value × List MemPlace) := some (.held v, [])
def VMap (W : World) (b n : Nat) (f : Int → Option Value) : Prop :=
  ∃ D : DataW Value, W.ownsMap Try.prog 3 rawE b n D ∧ ∀ t : Int, Maps.has D (.int .i64 t) = (f t).isSome ∧ ∀ z, D.atKey (.int .i64 t) z = match f t with
    | none => z
    | some v => .held v
def updV (f : Int → Option Value) (t : Int) (v : Value) : Int → Option Value := fun u => if u = t then some v else f u
def delV (f : Int → Option Value) (t : Int) : Int → Option Value := fun u => if u = t then none else f u
section
variable {W W' : World} {b n m B : Nat} {row : Option Nat} {f : Int → Option Value}
theorem VMap.same (h : VMap W b n f) (hb : W'.heap[b]? = W.heap[b]?) : VMap W' b n f := by
  obtain ⟨D, ⟨es, clock, h1, h2⟩, h3⟩ := h; exact ⟨D, ⟨es, clock, hb.trans h1, h2⟩, h3⟩
theorem VMap.lt (h : VMap W b n f) : b < W.heap.size := by obtain ⟨D, h1, h2⟩ := h; exact h1.lt
theorem VMap.kept (h : VMap W b n f) (hg : W.grownBy W' row) (hne : some b ≠ row) : VMap W' b n f := h.same (hg.block b h.lt hne)
theorem VMap.bel (h : VMap W b n f) (hb : Below B W W') (hlt : b < B) : VMap W' b n f := h.same (hb.block b hlt)
theorem VMap.mono (h : VMap W b n f) (hn : n ≤ m) : VMap W b m f := by obtain ⟨D, h1, h2⟩ := h; exact ⟨D, h1.mono hn, h2⟩
theorem VMap.made (w : World) : VMap (w.alloc (.map #[] 0)) w.heap.size 0 (fun _ => none) := ⟨.map [], World.ownsMap_made w _ _ _, fun t => ⟨rfl, fun z => rfl⟩⟩
theorem VMap.put {D : DataW Value} (hd : ∀ t : Int, Maps.has D (.int .i64 t) = (f t).isSome ∧ ∀ z, D.atKey (.int .i64 t) z = match f t with
    | none => z
    | some v => .held v) (hm : IsMap D) (t : Int) (v : Value) (h : W.ownsMap Try.prog 3 rawE b n (D.put (.int .i64 t) (.held v))) : VMap W b n (updV f t v) := by
  refine ⟨_, h, fun u => ?_⟩
  unfold updV
  by_cases hu : u = t
  · subst hu
    rw [if_pos rfl]
    refine ⟨?_, fun z => ?_⟩
    · rw [has_put_same hm (show WideAt.IsKeyLit (.int .i64 u) from trivial)]; rfl
    · rw [atKey_put_same hm (show WideAt.IsKeyLit (.int .i64 u) from trivial)]
  · rw [if_neg hu]
    have hne : (Lit.int .i64 u) ≠ Lit.int .i64 t := fun h => hu (by cases h; rfl)
    refine ⟨?_, fun z => ?_⟩
    · rw [has_put_other hne]; exact (hd u).1
    · rw [atKey_put_other hne]; exact (hd u).2 z
theorem VMap.del {D : DataW Value} (hd : ∀ t : Int, Maps.has D (.int .i64 t) = (f t).isSome ∧ ∀ z, D.atKey (.int .i64 t) z = match f t with
    | none => z
    | some v => .held v) (t : Int) (h : W.ownsMap Try.prog 3 rawE b n (D.del (.int .i64 t))) : VMap W b n (delV f t) := by
  refine ⟨_, h, fun u => ?_⟩
  unfold delV
  by_cases hu : u = t
  · subst hu
    rw [if_pos rfl]
    exact ⟨has_del_same, fun z => atKey_del_same z⟩
  · rw [if_neg hu]
    have hne : (Lit.int .i64 u) ≠ Lit.int .i64 t := fun h => hu (by cases h; rfl)
    refine ⟨?_, fun z => ?_⟩
    · rw [has_del_other hne]; exact (hd u).1
    · rw [atKey_del_other hne]; exact (hd u).2 z
end
/-- How many entries. -/
def mapSize (W : World) (b : Nat) : Nat := match W.heap[b]? with
  | some (.map es _) => es.size
  | _ => 0
section
variable {W : World} {b n : Nat} {f : Int → Option Value}
theorem keysOf_int {l : Lit} (h : KeysOf Try.prog 3 l) : ∃ t : Int, l = .int .i64 t := by
  obtain ⟨v, hv⟩ := h
  have hu : Try.prog.underlying 3 = some (.int .i64) := Try.underlying3
  have hm : mapKey Try.prog 3 v = some l := by
    rw [keyOf] at hv
    rw [hu] at hv
    exact hv
  unfold mapKey at hm
  rw [hu] at hm
  cases v <;> simp at hm
  obtain ⟨⟨rfl, _⟩, rfl⟩ := hm
  exact ⟨_, rfl⟩
theorem nodup_perm {α : Type} [DecidableEq α] {a b : List α} (h1 : a.Nodup) (h2 : b.Nodup) (h : ∀ x, x ∈ a ↔ x ∈ b) : a.length = b.length := by
  have := List.Nodup.length_le_of_subset h1 (fun x hx => (h x).1 hx)
  have := List.Nodup.length_le_of_subset h2 (fun x hx => (h x).2 hx)
  omega
theorem VMap.size {D : DataW Value} (hown : W.ownsMap Try.prog 3 rawE b n D) (hd : ∀ t : Int, Maps.has D (.int .i64 t) = (f t).isSome ∧ ∀ z, D.atKey (.int .i64 t) z = match f t with
    | none => z
    | some v => .held v) (ks : List Int) (hk : ks.Nodup) (hks : ∀ t, t ∈ ks ↔ (f t).isSome = true) : Maps.size D = ks.length := by
  obtain ⟨es, clock, hb, F, hs, rfl⟩ := hown
  have hkeys := fit_keys F
  have hap := fit_apart law8i F
  obtain ⟨E, hE⟩ : ∃ E, List.map (WideElems.rg Try.prog 3 rawE) es.toList = E := ⟨_, rfl⟩
  rw [hE] at hkeys hap hd ⊢
  have hp := Go.WideShapes.sorted_perm E
  rw [Maps.size_eq, hp.length_eq]
  have hin : ∀ p ∈ E, ∃ t : Int, p.1 = .int .i64 t := fun p hp => keysOf_int (hkeys p hp)
  have hhas : ∀ t : Int, (∃ p ∈ E, p.1 = .int .i64 t) ↔ t ∈ ks := fun t => by
    rw [hks t, ← (hd t).1, Maps.has_eq, List.any_eq_true]
    constructor
    · rintro ⟨p, h1, h2⟩
      refine ⟨p, hp.mem_iff.2 h1, ?_⟩
      rw [h2]; simp [Lit.sameKey]
    · rintro ⟨p, h1, h2⟩
      refine ⟨p, hp.mem_iff.1 h1, ?_⟩
      obtain ⟨u, hu⟩ := hin p (hp.mem_iff.1 h1)
      rw [hu] at h2 ⊢
      by_cases e : u = t
      · rw [e]
      · rw [sameKey_ne (fun h => e (by cases h; rfl))] at h2
        cases h2
  obtain ⟨g, hg⟩ : ∃ g : Lit → Int, ∀ t : Int, g (.int .i64 t) = t := ⟨fun l => match l with | .int _ t => t | _ => 0, fun t => rfl⟩
  have hlen : (E.map fun p => g p.1).length = ks.length := by
    refine nodup_perm ?_ hk fun t => ?_
    · rw [List.nodup_iff_pairwise_ne, List.pairwise_map]
      refine List.Pairwise.imp_of_mem ?_ hap
      intro p q hp hq hne he
      obtain ⟨u, hu⟩ := hin p hp
      obtain ⟨v, hv⟩ := hin q hq
      rw [hu, hv, hg, hg] at he
      exact hne (by rw [hu, hv, he])
    · rw [List.mem_map, ← hhas t]
      constructor
      · rintro ⟨p, h1, h2⟩
        obtain ⟨u, hu⟩ := hin p h1
        rw [hu, hg] at h2
        exact ⟨p, h1, by rw [hu, h2]⟩
      · rintro ⟨p, h1, h2⟩
        exact ⟨p, h1, by rw [h2, hg]⟩
  rw [← hlen, List.length_map]
end
theorem own_there {W W' : World} {b n : Nat} {D : DataW Value} (hown : W.ownsMap Try.prog 3 rawE b n D) (k : Int) (v : Value) (hk : Maps.has D (.int .i64 k) = true) (h : W'.ownsMap Try.prog 3 rawE b (n + 1) (D.put (.int .i64 k) (.held v))) : W'.ownsMap Try.prog 3 rawE b n (D.put (.int .i64 k) (.held v)) := by
  have h1 := size_put (k := .int .i64 k) (hown.tidy law8i) (.held v)
  rw [hk, if_pos rfl] at h1
  have h2 := hown.size_le
  obtain ⟨es, clock, a1, a2, a3, a4⟩ := h
  refine ⟨es, clock, a1, a2, ?_, a4⟩
  rw [a4, Maps.size_eq, length_sorted] at h1
  simp at h1
  omega
/-! at the operation -/
section
variable (w : World) {ops : Array Oper} {rest : List Oper} {o : Oper} {a : Act} {Q : Exit → Act → World → Prop}
theorem wpl_look (hg : o.guard = none) (m x : Operand) (t : TypeId) (hop : o.op = Op.lookup t m x false) (e : TypeId) (ht : Try.prog.underlying t = some (.map 3 e)) {z : Value} (hz : (zeroValue e).run Try.prog w = .ok z w) (b n : Nat) (f : Int → Option Value)
    (hm : a.eval m = .map (some b)) (hM : VMap w b n f) (i : Int) (hi : I64 i) (hx : a.eval x = .int .i64 i) (v : Value) (hv : (f i).getD z = v) (hK : wpList Try.prog ops Q rest (a.put o.dst v) w) : wpList Try.prog ops Q (o :: rest) a w := by
  refine wpList_plain hg fun K' hK' => ?_
  obtain ⟨D, hown, hd⟩ := hM
  obtain ⟨u, ps, hrun, hu⟩ := hown.lookup law8i ht hz (zd := .held z) (zp := []) rfl (key8i hi)
  unfold Oper.wp
  simp [execOp, hop, hm, hx, hrun, Result.andThen]
  have e1 : u = v := by
    rw [(hd i).2] at hu
    rw [← hv]
    cases hf : f i with
    | none => rw [hf] at hu; simp [rawE] at hu; simp [hu.1]
    | some y => rw [hf] at hu; simp [rawE] at hu; simp [hu.1]
  rw [e1]
  exact hK' _ _ hK
theorem wpl_look_ok (hg : o.guard = none) (m x : Operand) (t : TypeId) (hop : o.op = Op.lookup t m x true) (e : TypeId) (ht : Try.prog.underlying t = some (.map 3 e)) {z : Value} (hz : (zeroValue e).run Try.prog w = .ok z w) (b n : Nat) (f : Int → Option Value)
    (hm : a.eval m = .map (some b)) (hM : VMap w b n f) (i : Int) (hi : I64 i) (hx : a.eval x = .int .i64 i) (v : Value) (hv : (f i).getD z = v) (is : Bool) (his : (f i).isSome = is) (hK : wpList Try.prog ops Q rest (a.put o.dst (.tuple #[v, .bool is])) w) : wpList Try.prog ops Q (o :: rest) a w := by
  refine wpList_plain hg fun K' hK' => ?_
  obtain ⟨D, hown, hd⟩ := hM
  obtain ⟨u, ps, hrun, hu⟩ := hown.look_ok law8i ht hz (zd := .held z) (zp := []) rfl (key8i hi)
  unfold Oper.wp
  simp [execOp, hop, hm, hx, hrun, Result.andThen]
  have e1 : u = v := by
    rw [(hd i).2] at hu
    rw [← hv]
    cases hf : f i with
    | none => rw [hf] at hu; simp [rawE] at hu; simp [hu.1]
    | some y => rw [hf] at hu; simp [rawE] at hu; simp [hu.1]
  rw [e1, (hd i).1, his]
  exact hK' _ _ hK
theorem wpl_store (hg : o.guard = none) (m x y : Operand) (t : TypeId) (hop : o.op = Op.mapUpdate t m x y) (e : TypeId) (ht : Try.prog.underlying t = some (.map 3 e)) (b n : Nat) (f : Int → Option Value)
    (hm : a.eval m = .map (some b)) (hM : VMap w b n f) (hn : n < 9223372036854775807) (i : Int) (hi : I64 i) (hx : a.eval x = .int .i64 i) (v : Value) (hv : a.eval y = v)
    (hK : ∀ w', VMap w' b (n + 1) (updV f i v) → w.grownBy w' (some b) → wpList Try.prog ops Q rest (a.put o.dst undef) w') : wpList Try.prog ops Q (o :: rest) a w := by
  refine wpList_plain hg fun K' hK' => ?_
  obtain ⟨D, hown, hd⟩ := hM
  obtain ⟨w', hrun, r1, r2⟩ := hown.update law8i ht (by unfold maxLen; omega) (key8i hi) (val := v) (d := .held v) (ps := []) rfl
  unfold Oper.wp
  simp [execOp, hop, hm, hx, hv, hrun, Result.andThen]
  exact hK' _ _ (hK w' (VMap.put hd hown.isMap i v r1) r2)
theorem wpl_restore (hg : o.guard = none) (m x y : Operand) (t : TypeId) (hop : o.op = Op.mapUpdate t m x y) (e : TypeId) (ht : Try.prog.underlying t = some (.map 3 e)) (b n : Nat) (f : Int → Option Value)
    (hm : a.eval m = .map (some b)) (hM : VMap w b n f) (hn : n < 9223372036854775807) (i : Int) (hi : I64 i) (hx : a.eval x = .int .i64 i) (hf : (f i).isSome = true) (v : Value) (hv : a.eval y = v)
    (hK : ∀ w', VMap w' b n (updV f i v) → w.grownBy w' (some b) → wpList Try.prog ops Q rest (a.put o.dst undef) w') : wpList Try.prog ops Q (o :: rest) a w := by
  refine wpList_plain hg fun K' hK' => ?_
  obtain ⟨D, hown, hd⟩ := hM
  obtain ⟨w', hrun, r1, r2⟩ := hown.update law8i ht (by unfold maxLen; omega) (key8i hi) (val := v) (d := .held v) (ps := []) rfl
  unfold Oper.wp
  simp [execOp, hop, hm, hx, hv, hrun, Result.andThen]
  exact hK' _ _ (hK w' (VMap.put hd hown.isMap i v (own_there hown i v ((hd i).1.trans hf) r1)) r2)
theorem wpl_delete (hg : o.guard = none) (m x : Operand) (t : TypeId) (hop : o.op = Op.call { callee := Callee.builtin Builtin.delete, args := #[m, x], argTypes := #[t, 3] }) (e : TypeId) (ht : Try.prog.underlying t = some (.map 3 e)) (b n : Nat) (f : Int → Option Value)
    (hm : a.eval m = .map (some b)) (hM : VMap w b n f) (i : Int) (hi : I64 i) (hx : a.eval x = .int .i64 i)
    (hK : ∀ w', VMap w' b n (delV f i) → w.grownBy w' (some b) → wpList Try.prog ops Q rest (a.put o.dst (.tuple #[])) w') : wpList Try.prog ops Q (o :: rest) a w := by
  obtain ⟨D, hown, hd⟩ := hM
  exact wpList_delete_own w hg m x t 3 hop e law8i ht rawE b n D hm hown _ _ hx (key8i hi) fun w' h1 h2 => hK w' (VMap.del hd i h1) h2.grown
theorem wpl_len (hg : o.guard = none) (m : Operand) (t : TypeId) (hop : o.op = Op.call { callee := Callee.builtin Builtin.len, args := #[m], argTypes := #[t] }) (e : TypeId) (ht : Try.prog.underlying t = some (.map 3 e)) (b n : Nat) (f : Int → Option Value)
    (hm : a.eval m = .map (some b)) (hM : VMap w b n f) (ks : List Int) (hk : ks.Nodup) (hks : ∀ t, t ∈ ks ↔ (f t).isSome = true)
    (hK : wpList Try.prog ops Q rest (a.put o.dst (.int .i64 (ks.length : Nat))) w) : wpList Try.prog ops Q (o :: rest) a w := by
  obtain ⟨D, hown, hd⟩ := hM
  exact wpList_len_own w hg m t hop 3 e ht rawE b n D hm hown (by rw [VMap.size hown hd ks hk hks]; exact hK)
end
end Go.Proofs.Ytpfpkpaodlmlaaa
namespace Go.Proofs.Ytpfpkpaodlmlaaa
set_option maxRecDepth 100000
open Go.RowKit Go.Maps
set_option linter.unusedVariables false
attribute [local go_sem] ba_size
abbrev tW : TypeId := 44
abbrev tC : TypeId := 50
abbrev tML : TypeId := 41
abbrev tMI : TypeId := 42
def cntV (p : Int × Int) : Value := .agg #[.int .i64 p.1, .int .i64 p.2]
/-- A map of numbers and counts. -/
def CMap (W : World) (b n : Nat) (c : Cnt) : Prop := VMap W b n (fun x => (c x).map cntV)
theorem CMap.kept {W W' : World} {b n : Nat} {c : Cnt} {row : Option Nat} (h : CMap W b n c) (hg : W.grownBy W' row) (hne : some b ≠ row) : CMap W' b n c := VMap.kept h hg hne
theorem CMap.bel {W W' : World} {b n B : Nat} {c : Cnt} (h : CMap W b n c) (hb : Below B W W') (hlt : b < B) : CMap W' b n c := VMap.bel h hb hlt
theorem CMap.lt {W : World} {b n : Nat} {c : Cnt} (h : CMap W b n c) : b < W.heap.size := VMap.lt h
theorem cmap_upd (c : Cnt) (x : Int) (p : Int × Int) : (fun u => (updC c x p u).map cntV) = updV (fun u => (c u).map cntV) x (cntV p) := by
  funext u
  unfold updC updV
  by_cases h : u = x
  · rw [if_pos h, if_pos h]; rfl
  · rw [if_neg h, if_neg h]
theorem cmap_del (c : Cnt) (x : Int) : (fun u => (delC c x u).map cntV) = delV (fun u => (c u).map cntV) x := by
  funext u
  unfold delC delV
  by_cases h : u = x
  · rw [if_pos h, if_pos h]; rfl
  · rw [if_neg h, if_neg h]
theorem zeroC (w : World) : (zeroValue tC).run Try.prog w = .ok (.agg #[.int .i64 0, .int .i64 0]) w := by kernel_rfl
/-- A web, as a value. -/
abbrev webC (vl vn : Value) (m1 m2 m3 : Nat) : Array Value := #[vl, vn, .map (some m1), .map (some m2), .map (some m3)]
abbrev webV (vl vn : Value) (m1 m2 m3 : Nat) : Value := .agg (webC vl vn m1 m2 m3)
set_option maxHeartbeats 1000000 in
theorem phas11_any (vl vn : Value) (m1 m2 m3 n : Nat) (c : Cnt) (x : Int) (W : World) (hx : I64 x) (hM : CMap W m1 n c) (bo : Bool) (hb : (c x).isSome = bo) :
    Calls Try.prog 34 #[webV vl vn m1 m2 m3, .int .i64 x] W fun e W' => e = .returned (.bool bo) ∧ Below W.heap.size W W' := by
  obtain ⟨p, q, hv⟩ : ∃ p q, ((c x).map cntV).getD (.agg #[.int .i64 0, .int .i64 0]) = .agg #[.int .i64 p, .int .i64 q] := by
    cases c x with
    | none => exact ⟨0, 0, rfl⟩
    | some r => exact ⟨r.1, r.2, rfl⟩
  have his : ((c x).map cntV).isSome = bo := by rw [Option.isSome_map]; exact hb
  have hM1 := VMap.kept hM (World.grownBy_alloc W (.cells (webC vl vn m1 m2 m3) tW) none) (by simp)
  clear hb
  go_enter Try.func34, Try.ntmps34
  go_wp2_with (at_lookup; refine wpl_look_ok _ rfl _ _ tML rfl tC Try.underlying41 (zeroC _) m1 n _ rfl hM1 x hx rfl _ hv bo his ?_)
  go_ret
  exact ⟨rfl, ((Below.refl W.heap.size W).alloc (Nat.le_refl _) _).alloc (by simp) _⟩
set_option maxHeartbeats 1000000 in
theorem pmore11_any (vl vn : Value) (m1 m2 m3 n : Nat) (c : Cnt) (x : Int) (W : World) (hx : I64 x) (hM : CMap W m1 n c) (p d r : Int × Int) (hc : c x = some p) (hn : n < 9223372036854775807)
    (hr1 : p.1 + d.1 = r.1) (hr2 : p.2 + d.2 = r.2) (hI1 : I64 r.1) (hI2 : I64 r.2) :
    Calls Try.prog 45 #[webV vl vn m1 m2 m3, .int .i64 x, .agg #[.int .i64 d.1, .int .i64 d.2]] W fun e W' => e = .returned (.tuple #[]) ∧ CMap W' m1 n (updC c x r) ∧ W.grownBy W' (some m1) := by
  have hv : ((c x).map cntV).getD (.agg #[.int .i64 0, .int .i64 0]) = .agg #[.int .i64 p.1, .int .i64 p.2] := by rw [hc]; rfl
  have hlt := hM.lt
  have hf : ((c x).map cntV).isSome = true := by rw [hc]; rfl
  obtain ⟨p1, p2⟩ := p
  obtain ⟨d1, d2⟩ := d
  obtain ⟨r1, r2⟩ := r
  simp only at hr1 hr2 hI1 hI2 hv ⊢
  have z1 : IntKind.i64.wrap (p1 + d1) = r1 := by rw [hr1, IntKind.wrap_i64]; omega
  have z2 : IntKind.i64.wrap (p2 + d2) = r2 := by rw [hr2, IntKind.wrap_i64]; omega
  have hU : Hid ((fun u => (updC c x (r1, r2) u).map cntV) = updV (fun u => (c u).map cntV) x (.agg #[.int .i64 r1, .int .i64 r2])) := cmap_upd c x (r1, r2)
  have g1 := (World.grownBy_alloc W (.cells (webC vl vn m1 m2 m3) tW) none).trans (World.grownBy_alloc _ (.cells #[.int .i64 d1, .int .i64 d2] tC) none)
  have g2 := g1.trans (World.grownBy_alloc _ (.cells #[.int .i64 p1, .int .i64 p2] tC) none)
  have hM1 := VMap.kept hM g1 (by simp)
  have hM2 := VMap.kept hM g2 (by simp)
  have HG : Hid (∀ V, _ → W.grownBy V (some m1)) := fun V (h : (((W.alloc (.cells (webC vl vn m1 m2 m3) tW)).alloc (.cells #[.int .i64 d1, .int .i64 d2] tC)).alloc (.cells #[.int .i64 p1, .int .i64 p2] tC)).grownBy V (some m1)) => (g2.but _).trans h
  clear hc g1 g2 hr1 hr2
  go_enter Try.func45, Try.ntmps45
  go_wp2_with (first
    | (at_lookup; refine wpl_look _ rfl _ _ tML rfl tC Try.underlying41 (zeroC _) m1 n _ rfl hM1 x hx rfl _ hv ?_)
    | (at_mapUpdate; refine wpl_restore _ rfl _ _ _ tML rfl tC Try.underlying41 m1 n _ rfl hM2 hn x hx rfl hf (.agg #[.int .i64 r1, .int .i64 r2]) rfl ?_; intro w1 hM3 hg3))
  go_wp2_with fail
  go_end0
  refine ⟨rfl, ?_, HG.out _ hg3⟩
  unfold CMap
  rw [hU.out]
  exact hM3
end Go.Proofs.Ytpfpkpaodlmlaaa
namespace Go.Proofs.Ytpfpkpaodlmlaaa
set_option maxRecDepth 100000
open Go.RowKit
set_option linter.unusedVariables false
def iV (K : List Int) : List Value := K.map (Value.int .i64)
theorem iV_rec (K : List Int) : recV intV K = iV K := by
  unfold recV iV
  induction K with
  | nil => rfl
  | cons x r ih => rw [List.flatMap_cons, ih]; rfl
theorem iV_length (K : List Int) : (iV K).length = K.length := by unfold iV; rw [List.length_map]
theorem iV_app (K M : List Int) : iV (K ++ M) = iV K ++ iV M := by unfold iV; rw [List.map_append]
theorem iV_at (K : List Int) (i : Nat) (h : i < K.length) : (iV K)[i]? = some (.int .i64 K[i]) := by unfold iV; simp [h]
theorem isrc_take {W : World} {B g cp : Nat} {K : List Int} (h : W.ownsRow B 3 1 (.slice (some ⟨g, 0, none⟩) K.length cp) K.length (iV K)) (q : Nat) : ∀ j u, (iV (K.take q))[j]? = some u → W.cell? ((⟨g, 0, none⟩ : Addr).add j) = some u := by
  intro j u hu
  have hj := (List.getElem?_eq_some_iff.1 hu).1
  rw [iV_length, List.length_take] at hj
  have c := h.cellAt j (by omega)
  have e : (iV (K.take q))[j]? = (iV K)[j]? := by unfold iV; rw [List.map_take, List.getElem?_take_of_lt (by omega)]
  rw [e] at hu
  have a : ((⟨g, 0, none⟩ : Addr).add j) = ⟨g, j, none⟩ := by simp [Addr.add]; intro h; exact h.symm
  rw [a, c]
  exact hu
theorem isrc_drop {W : World} {B g cp : Nat} {K : List Int} (h : W.ownsRow B 3 1 (.slice (some ⟨g, 0, none⟩) K.length cp) K.length (iV K)) (q : Nat) : ∀ j u, (iV (K.drop q))[j]? = some u → W.cell? ((⟨g, q, none⟩ : Addr).add j) = some u := by
  intro j u hu
  have hj := (List.getElem?_eq_some_iff.1 hu).1
  rw [iV_length, List.length_drop] at hj
  have c := h.cellAt (q + j) (by omega)
  have e : (iV (K.drop q))[j]? = (iV K)[q + j]? := by unfold iV; rw [List.map_drop, List.getElem?_drop]
  rw [e] at hu
  have a : ((⟨g, q, none⟩ : Addr).add j) = ⟨g, q + j, none⟩ := by simp [Addr.add]
  rw [a, c]
  exact hu
theorem own_slice11 {W : World} {B e k n : Nat} {v : Value} {xs : List Value} (h : W.ownsRow B e k v n xs) (h0 : 0 < n) : ∃ g c, v = .slice (some ⟨g, 0, none⟩) n c ∧ n ≤ c ∧ c ≤ 9223372036854775807 := by
  rcases h.2 with ⟨_, h⟩ | ⟨g, cap, cur, rfl, _, _, h2, h3, _⟩
  · omega
  · exact ⟨g, cap, rfl, h2, by unfold maxLen at h3; omega⟩
def IRow (w W : World) (r : Value) (K : List Int) : Prop := (r = .slice none 0 0 ∧ K = []) ∨ (0 < K.length ∧ W.ownsRow w.heap.size 3 1 r K.length (iV K))
theorem IRow.ints {w W : World} {r : Value} {K : List Int} (h : IRow w W r K) (hn : K.length ≤ 140737488351232) : IsInts W r K := by
  rcases h with ⟨rfl, rfl⟩ | ⟨_, h⟩
  · exact IsRec.nil 1 intV W
  · rw [← iV_rec] at h
    exact IsRec.own intV_len (by omega) h hn
section
variable {α : Type}
theorem startsF_snoc (s : Sp α) : ∀ (l : List (Sp α)) (acc : List Int), startsF acc (l ++ [s]) = insI s.1 (startsF acc l)
  | [], acc => rfl
  | x :: l, acc => by rw [List.cons_append, startsF, startsF, startsF_snoc s l]
end
theorem insI_in (k : Int) : ∀ K : List Int, K.Pairwise (· < ·) → k ∈ K → insI k K = K
  | [], _, h => by cases h
  | x :: K, hs, h => by
    rw [insI]
    by_cases h1 : x < k
    · rw [if_pos h1]
      rcases List.mem_cons.1 h with rfl | h
      · omega
      · rw [insI_in k K (List.pairwise_cons.1 hs).2 h]
    · rw [if_neg h1]
      rcases List.mem_cons.1 h with rfl | h
      · rw [if_pos rfl]
      · have := (List.pairwise_cons.1 hs).1 k h
        omega
theorem insI_split (k : Int) : ∀ (K : List Int) (q : Nat) (hq : q ≤ K.length) (hl : ∀ j (h : j < q), K[j]'(by omega) < k) (hn : ∀ h : q < K.length, ¬ K[q]'h < k) (hm : k ∉ K), insI k K = K.take q ++ k :: K.drop q
  | [], q, hq, hl, hn, hm => by
    obtain rfl : q = 0 := by simpa using hq
    rfl
  | x :: K, 0, hq, hl, hn, hm => by
    rw [insI]
    have := hn (by simp)
    simp only [List.getElem_cons_zero] at this
    rw [if_neg this, if_neg (fun e => hm (by rw [e]; exact List.mem_cons_self ..))]
    rfl
  | x :: K, q + 1, hq, hl, hn, hm => by
    rw [insI]
    have h0 := hl 0 (by omega)
    simp only [List.getElem_cons_zero] at h0
    rw [if_pos h0, insI_split k K q (by simpa using hq) (fun j h => by have := hl (j + 1) (by omega); simpa using this) (fun h => by have := hn (by simpa using h); simpa using this) (fun h => hm (List.mem_cons_of_mem _ h))]
    rfl
theorem insI_len (k : Int) : ∀ K : List Int, (insI k K).length ≤ K.length + 1
  | [] => by simp [insI]
  | x :: K => by
    rw [insI]
    have := insI_len k K
    split
    · simp; omega
    · split <;> simp
section
variable {α : Type}
theorem startsF_len : ∀ (l : List (Sp α)) (acc : List Int), (startsF acc l).length ≤ acc.length + l.length
  | [], acc => by rw [startsF]; simp
  | s :: l, acc => by
    rw [startsF, List.length_cons]
    have h1 := startsF_len l (insI s.1 acc)
    have h2 := insI_len s.1 acc
    omega
theorem starts_len (l : List (Sp α)) : (startsL l).length ≤ l.length := by have := startsF_len l []; simpa [startsL] using this
end
end Go.Proofs.Ytpfpkpaodlmlaaa
namespace Go.Proofs.Ytpfpkpaodlmlaaa
set_option maxRecDepth 100000
open Go.RowKit
set_option linter.unusedVariables false
/-- The block of the row that a variable bears. -/
def vblk (W : World) (bn : Nat) : Option Nat := match W.cell? ⟨bn, 0, none⟩ with
  | some v => v.ownBlock
  | none => none
theorem vblk_of {W : World} {bn : Nat} {t : TypeId} {v : Value} (h : Boxed W bn t v) : vblk W bn = v.ownBlock := by unfold vblk; rw [h.cell]
theorem vblk_same {W W' : World} {bn : Nat} (h : W'.heap[bn]? = W.heap[bn]?) : vblk W' bn = vblk W bn := by unfold vblk; rw [World.cell?_of_block (a := ⟨bn, 0, none⟩) h]
/-- Below B nothing has turned; and nothing but block bn and the row that it bears; which is that one still, or a new one. -/
structure Fr (B bn : Nat) (W W' : World) : Prop where
  bel : Below B W W'
  blk : ∀ b, b < W.heap.size → b ≠ bn → some b ≠ vblk W bn → W'.heap[b]? = W.heap[b]?
  vb : vblk W' bn = vblk W bn ∨ ∃ g, vblk W' bn = some g ∧ W.heap.size ≤ g
section
variable {B bn : Nat} {A W W' : World}
theorem Fr.refl (B bn : Nat) (W : World) : Fr B bn W W := ⟨Below.refl _ _, fun _ _ _ _ => rfl, .inl rfl⟩
theorem Fr.trans (h : Fr B bn A W) (k : Fr B bn W W') : Fr B bn A W' := by
  refine ⟨h.bel.trans k.bel, fun b hb hne h3 => ?_, ?_⟩
  · refine (k.blk b (Nat.lt_of_lt_of_le hb h.bel.size) hne (fun e => ?_)).trans (h.blk b hb hne h3)
    rcases h.vb with e1 | ⟨g, e1, e2⟩
    · exact h3 (by rw [← e1]; exact e)
    · rw [e1] at e
      have := Option.some.inj e
      omega
  · rcases k.vb with e1 | ⟨g, e1, e2⟩
    · rcases h.vb with e3 | ⟨g, e3, e4⟩
      · exact .inl (e1.trans e3)
      · exact .inr ⟨g, e1.trans e3, e4⟩
    · exact .inr ⟨g, e1, Nat.le_trans h.bel.size e2⟩
theorem Fr.below (h : Below W.heap.size W W') (hB : B ≤ W.heap.size) (bn : Nat) (hbn : bn < W.heap.size) : Fr B bn W W' := ⟨h.mono hB, fun b hb _ _ => h.block b hb, .inl (vblk_same (h.block bn hbn))⟩
theorem Fr.andBelow (h : Fr B bn A W) (k : Below W.heap.size W W') (hB : B ≤ W.heap.size) (hbn : bn < W.heap.size) : Fr B bn A W' := h.trans (Fr.below k hB bn hbn)
theorem Fr.row (h : Fr B bn A W) {n : Nat} {v : Value} {xs : List Value} (hrow : W.ownsRow B 3 1 v n xs) {t : TypeId} (hbx : Boxed W bn t v) (ht : t ≠ 3) (hg : W.grownBy W' v.ownBlock) (hB : B ≤ W.heap.size) : Fr B bn A W' :=
  h.trans ⟨(Below.refl B W).grown hg hB (fun j hj => (hrow.lt j hj).1), fun b hb hne h3 => hg.block b hb (fun e => h3 (by rw [vblk_of hbx]; exact e)), .inl (vblk_same (hg.block bn hbx.lt (block_not_row hbx ht hrow)))⟩
theorem Fr.alloc (h : Fr B bn A W) (hB : B ≤ W.heap.size) (hbn : bn < W.heap.size) (o : Obj) : Fr B bn A (W.alloc o) := h.andBelow ((Below.refl _ W).alloc (Nat.le_refl _) o) hB hbn
theorem Fr.drew (h : Fr B bn A W) : Fr B bn A W.drew := ⟨h.bel.drew, h.blk, h.vb⟩
theorem Fr.set (h : Fr B bn A W) (hB : B ≤ bn) {t : TypeId} {v : Value} (hbx : Boxed W bn t v) (u : Value) (hu : u.ownBlock = vblk A bn ∨ ∃ g, u.ownBlock = some g ∧ A.heap.size ≤ g) : Fr B bn A (W.setCell ⟨bn, 0, none⟩ u) := by
  have e : vblk (W.setCell ⟨bn, 0, none⟩ u) bn = u.ownBlock := vblk_of (hbx.set u)
  refine ⟨h.bel.setCell (p := ⟨bn, 0, none⟩) hB u, fun b hb hne h3 => (Below.heap_setCell _ _ _ b hne).trans (h.blk b hb hne h3), by rw [e]; exact hu⟩
theorem Fr.mono {B' : Nat} (h : Fr B bn A W) (hB : B' ≤ B) : Fr B' bn A W := ⟨h.bel.mono hB, h.blk, h.vb⟩
/-- A block that is none of these stands. -/
theorem Fr.box {t : TypeId} {cs : Array Value} {b : Nat} (h : Fr B bn W W') (hb : SBox W b t cs) (hne : b ≠ bn) (hv : some b ≠ vblk W bn) : SBox W' b t cs := (h.blk b hb.lt hne hv).trans hb
/-- Another row stands, and is another one still. -/
theorem Fr.other (h : Fr B bn W W') {B' e k n : Nat} {v : Value} {xs : List Value} (ho : W.ownsRow B' e k v n xs) (hne : v.ownBlock ≠ some bn) (hv : ∀ g, v.ownBlock = some g → vblk W bn ≠ some g) : W'.ownsRow B' e k v n xs ∧ ∀ g, v.ownBlock = some g → vblk W' bn ≠ some g := by
  constructor
  · rcases ho.2 with ⟨rfl, h0⟩ | ⟨g, cap, cur, rfl, h1, h2, h3⟩
    · exact ⟨ho.1, .inl ⟨rfl, h0⟩⟩
    · refine ⟨ho.1, .inr ⟨g, cap, cur, rfl, h1, (h.blk g (Array.getElem?_eq_some_iff.1 h2).1 (fun e => hne (by rw [e]; simp [Value.ownBlock])) (fun e => hv g (by simp [Value.ownBlock]) e.symm)).trans h2, h3⟩⟩
  · intro g hg e
    rcases h.vb with e1 | ⟨g', e1, e2⟩
    · exact hv g hg (by rw [← e1]; exact e)
    · have := (ho.lt g hg).2
      rw [e1] at e
      have := Option.some.inj e
      omega
end
end Go.Proofs.Ytpfpkpaodlmlaaa
namespace Go.Proofs.Ytpfpkpaodlmlaaa
set_option maxRecDepth 100000
open Go.RowKit Go.Maps
set_option linter.unusedVariables false
def isMapB (W : World) (b : Nat) : Prop := ∃ es cl, W.heap[b]? = some (.map es cl)
def nilS : Value := .slice none 0 0
def inN (N : List Int) (x : Int) : Bool := decide (x ∈ N)
/-- A map of numbers and places. -/
def GMap (W : World) (b n : Nat) (g : Int → List Nat) : Prop := ∃ f, VMap W b n f ∧ ∀ x, IsInts W ((f x).getD nilS) ((g x).map Int.ofNat)
structure Web (Wc : World) (l : List Stp) (N : List Int) (vl vn : Value) (m1 m2 m3 : Nat) : Prop where
  sts : IsSts Wc vl l
  shp : Shp vl
  few : l.length ≤ 3518437208780
  okl : ∀ x ∈ l, goodSt x
  nums : IsInts Wc vn N
  shpn : Shp vn
  fewN : N.length ≤ 17592186043904
  okN : ∀ x ∈ N, okS x
  sorted : N.Pairwise (· < ·)
  isM : isMapB Wc m1
  fr : GMap Wc m2 17592186044416 (frL l (inN N))
  to : GMap Wc m3 17592186044416 (toL l (inN N))
  ne2 : m2 ≠ m1
  ne3 : m3 ≠ m1
section
variable {Wc V : World} {m1 : Nat}
theorem cell_block {W : World} {p : Addr} {u : Value} (h : W.cell? p = some u) : ∃ cs t f, W.heap[p.block]? = some (.cells cs t f) := by
  unfold World.cell? at h
  cases hb : W.heap[p.block]? with
  | none => rw [hb] at h; simp at h
  | some o =>
    rw [hb] at h
    cases o with
    | cells cs t f => exact ⟨cs, t, f, rfl⟩
    | _ => simp at h
/-- A cell stands while a map turns. -/
theorem cell_map (hm : isMapB Wc m1) (hg : Wc.grownBy V (some m1)) {p : Addr} {u : Value} (h : Wc.cell? p = some u) : V.cell? p = some u := by
  obtain ⟨cs, t, f, hb⟩ := cell_block h
  obtain ⟨es, cl, hm⟩ := hm
  have hne : some p.block ≠ some m1 := fun e => by
    have : p.block = m1 := by simpa using e
    rw [this, hm] at hb
    cases hb
  have := hg.block p.block (Array.getElem?_eq_some_iff.1 hb).1 hne
  rw [World.cell?_of_block this]
  exact h
theorem IsRec.turned {α : Type} {sz : Nat} {enc : α → List Value} (hz : ∀ x, (enc x).length = sz) (hs : 0 < sz) (hm : isMapB Wc m1) (hg : Wc.grownBy V (some m1)) {v : Value} {L : List α} (h : IsRec sz enc Wc v L) : IsRec sz enc V v L := by
  obtain ⟨a, n, cap, hv, h1, h2, h3, h4, h6⟩ := h
  refine ⟨a, n, cap, hv, h1, h2, h3, h4, ?_⟩
  rcases h6 with h6 | ⟨b, off, ha, hlt, hc⟩
  · exact .inl h6
  · exact .inr ⟨b, off, ha, Nat.lt_of_lt_of_le hlt hg.size, fun i hi j u hu => cell_map hm hg (hc i hi j u hu)⟩
theorem IsSts.turned (hm : isMapB Wc m1) (hg : Wc.grownBy V (some m1)) {v : Value} {L : List Stp} (h : IsSts Wc v L) : IsSts V v L := by
  obtain ⟨L', h1, h2, h3⟩ := h
  exact ⟨L', h1.turned stV_len (by omega) hm hg, h2, fun i x s hx hs => ⟨(h3 i x s hx hs).from_, (h3 i x s hx hs).to_, (h3 i x s hx hs).eds.turned edV_len (by omega) hm hg⟩⟩
theorem GMap.turned {b n : Nat} {g : Int → List Nat} (hm : isMapB Wc m1) (hg : Wc.grownBy V (some m1)) (hne : b ≠ m1) (h : GMap Wc b n g) : GMap V b n g := by
  obtain ⟨f, h1, h2⟩ := h
  exact ⟨f, h1.kept hg (fun e => hne (by simpa using e)), fun x => (h2 x).turned intV_len (by omega) hm hg⟩
end
theorem isMap_of {W : World} {b n : Nat} {c : Cnt} (h : CMap W b n c) : isMapB W b := by
  obtain ⟨D, ⟨es, cl, h1, _⟩, _⟩ := h
  exact ⟨es, cl, h1⟩
/-- A row of places, read at one world. -/
theorem ints_at {W : World} {v : Value} {F : List Nat} (h : IsInts W v (F.map Int.ofNat)) : ∃ a cap, v = .slice a F.length cap ∧ F.length ≤ cap ∧ cap ≤ 9223372036854775807 ∧ F.length ≤ 140737488351232 ∧
    Hid (∀ k (hk : k < F.length), ∃ b off, a = some ⟨b, off, none⟩ ∧ W.cell? ⟨b, off + k, none⟩ = some (.int .i64 ((F[k] : Nat) : Int))) := by
  obtain ⟨a, cap, rfl, h1, h2, h3, HC⟩ := h.reads
  rw [List.length_map] at h1 h3 HC ⊢
  refine ⟨a, cap, rfl, h1, h2, h3, ?_⟩
  intro k hk
  obtain ⟨b, off, rfl, HQ⟩ := HC.out (by omega)
  refine ⟨b, off, rfl, ?_⟩
  have := HQ.out k hk W (Below.refl _ _)
  rw [getD_at _ _ _ (by rw [List.length_map]; exact hk), List.getElem_map] at this
  exact this
/-- The numbers of a step, read at one world. -/
theorem sts_at {W : World} {v : Value} {l : List Stp} (h : IsSts W v l) : ∃ a cap, v = .slice a l.length cap ∧ l.length ≤ cap ∧ cap ≤ 9223372036854775807 ∧ l.length ≤ 140737488351232 ∧
    Hid (∀ k (hk : k < l.length), ∃ b off, a = some ⟨b, off, none⟩ ∧ W.cell? ⟨b, off + k * 3, none⟩ = some (.int .i64 (stA l k).1) ∧ W.cell? ⟨b, off + k * 3 + 1, none⟩ = some (.int .i64 (stA l k).2.1)) := by
  obtain ⟨a, cap, rfl, h1, h2, h3, HC⟩ := h.reads
  refine ⟨a, cap, rfl, h1, h2, h3, ?_⟩
  intro k hk
  obtain ⟨b, off, rfl, u, _, HQ⟩ := HC.out k hk
  obtain ⟨c0, c1, _⟩ := HQ W (Below.refl _ _)
  rw [stA_at l k hk]
  exact ⟨b, off, rfl, c0, c1⟩
theorem zeroS (w : World) : (zeroValue 22).run Try.prog w = .ok (.slice none 0 0) w := by kernel_rfl
end Go.Proofs.Ytpfpkpaodlmlaaa
namespace Go.Proofs.Ytpfpkpaodlmlaaa
set_option maxRecDepth 100000
open Go.RowKit Go.Maps
set_option linter.unusedVariables false
theorem results_row11 {P : Program} {fn : Func} {p : Tmp} {ty : TypeId} (h : fn.results = #[.cell p ty]) (tmps : Array Value) (w : World) (g : Nat) (t : TypeId) (cs : Array Value) (fr : Nat × Nat) (d : TypeDesc)
    (hp : tmps.getD p undef = .pointer (some ⟨g, 0, none⟩)) (hg : w.heap[g]? = some (.cells cs t fr))
    (hu : P.underlying ty = some d) (hd : (match d with | .struct _ | .array _ _ => true | _ => false) = true) (hi : (P.info? ty).map (·.size) = some cs.size) :
    (results fn tmps).run P w = .ok (.agg cs) w := by
  have hp' : tmps[p]?.getD undef = .pointer (some ⟨g, 0, none⟩) := by simpa using hp
  simp [results, h, hp', asAddr, run_loadVar_row w g t ty cs fr d hg hu hd hi]
abbrev plV (g : List Nat) : List Value := iV (g.map Int.ofNat)
def OwnP (W : World) (B : Nat) (o : Option Value) (g : List Nat) : Prop := W.ownsRow B 3 1 (o.getD nilS) g.length (plV g)
def ApartO (o o' : Option Value) : Prop := ∀ b, (o.getD nilS).ownBlock = some b → (o'.getD nilS).ownBlock ≠ some b
theorem ApartO.symm {o o' : Option Value} (h : ApartO o o') : ApartO o' o := fun b h1 h2 => h b h2 h1
structure TwoF (W : World) (B m2 m3 n : Nat) (f2 f3 : Int → Option Value) (g2 g3 : Int → List Nat) : Prop where
  v2 : VMap W m2 n f2
  v3 : VMap W m3 n f3
  o2 : ∀ x, OwnP W B (f2 x) (g2 x)
  o3 : ∀ x, OwnP W B (f3 x) (g3 x)
  a2 : ∀ x y, x ≠ y → ApartO (f2 x) (f2 y)
  a3 : ∀ x y, x ≠ y → ApartO (f3 x) (f3 y)
  a23 : ∀ x y, ApartO (f2 x) (f3 y)
section
variable {W W' : World} {B m2 m3 n : Nat} {f2 f3 : Int → Option Value} {g2 g3 : Int → List Nat}
theorem TwoF.symm (h : TwoF W B m2 m3 n f2 f3 g2 g3) : TwoF W B m3 m2 n f3 f2 g3 g2 := ⟨h.v3, h.v2, h.o3, h.o2, h.a3, h.a2, fun x y => (h.a23 y x).symm⟩
theorem TwoF.bel (h : TwoF W B m2 m3 n f2 f3 g2 g3) (hb : Below W.heap.size W W') : TwoF W' B m2 m3 n f2 f3 g2 g3 :=
  ⟨h.v2.bel hb h.v2.lt, h.v3.bel hb h.v3.lt, fun x => (h.o2 x).kept (grown_below8 none hb) (by cases ((f2 x).getD nilS).ownBlock <;> simp), fun x => (h.o3 x).kept (grown_below8 none hb) (by cases ((f3 x).getD nilS).ownBlock <;> simp), h.a2, h.a3, h.a23⟩
theorem own_off {v : Value} {k m : Nat} {xs : List Value} (h : W.ownsRow B 3 1 v k xs) (hm : m < B) : v.ownBlock = none ∨ v.ownBlock ≠ some m := by
  cases hv : v.ownBlock with
  | none => exact .inl rfl
  | some g => exact .inr (fun e => by have := (h.lt g hv).1; have e2 := Option.some.inj e; omega)
theorem TwoF.turned (h : TwoF W B m2 m3 n f2 f3 g2 g3) {m1 : Nat} (hg : W.grownBy W' (some m1)) (h1 : m1 < B) (h2 : m2 ≠ m1) (h3 : m3 ≠ m1) : TwoF W' B m2 m3 n f2 f3 g2 g3 :=
  ⟨h.v2.kept hg (fun e => h2 (by simpa using e)), h.v3.kept hg (fun e => h3 (by simpa using e)), fun x => (h.o2 x).kept hg (own_off (h.o2 x) h1), fun x => (h.o3 x).kept hg (own_off (h.o3 x) h1), h.a2, h.a3, h.a23⟩
def updG (g : Int → List Nat) (x : Int) (k : Nat) : Int → List Nat := fun u => if u = x then g u ++ [k] else g u
/-- One place more, at x of the first map. -/
theorem TwoF.push (h : TwoF W B m2 m3 n f2 f3 g2 g3) (x : Int) (k : Nat) (o : Obj) {W2 W3 : World} {v' : Value} (hm2 : m2 < B) (hm3 : m3 < B) (hB : B ≤ W.heap.size)
    (hown : W2.ownsRow B 3 1 v' ((g2 x).length + 1) (plV (g2 x) ++ [.int .i64 (k : Int)])) (hg : (W.alloc o).grownBy W2 ((f2 x).getD nilS).ownBlock) (hat : v'.ownBlock = ((f2 x).getD nilS).ownBlock ∨ v'.ownBlock = some (W.alloc o).heap.size)
    (hM : VMap W3 m2 (n + 1) (updV f2 x v')) (hg3 : W2.grownBy W3 (some m2)) (hne : m2 ≠ m3) : TwoF W3 B m2 m3 (n + 1) (updV f2 x v') f3 (updG g2 x k) g3 := by
  have hb0 : Below W.heap.size W (W.alloc o) := (Below.refl _ W).alloc (Nat.le_refl _) o
  have hA := h.bel hb0
  have keepR : ∀ {w : Value} {k : Nat} {xs : List Value}, (W.alloc o).ownsRow B 3 1 w k xs → (∀ b, ((f2 x).getD nilS).ownBlock = some b → w.ownBlock ≠ some b) → W3.ownsRow B 3 1 w k xs := fun {w k xs} hw ha => by
    have h1 : W2.ownsRow B 3 1 w k xs := hw.kept hg (by
      cases hw2 : w.ownBlock with
      | none => exact .inl rfl
      | some b => exact .inr (fun e => ha b e.symm hw2))
    exact h1.kept hg3 (own_off h1 hm2)
  have newB : ∀ (q : Option Value) (gq : List Nat), OwnP W B q gq → ∀ b, v'.ownBlock = some b → (∀ b, ((f2 x).getD nilS).ownBlock = some b → (q.getD nilS).ownBlock ≠ some b) → (q.getD nilS).ownBlock ≠ some b := fun q gq hq b hb ha e => by
    rcases hat with h1 | h1
    · exact ha b (by rw [← h1]; exact hb) e
    · have := (hq.lt b e).2
      rw [hb] at h1
      have e2 := Option.some.inj h1
      simp at e2
      omega
  have hv3 : VMap W3 m3 (n + 1) f3 := by
    have h1 : VMap W2 m3 n f3 := hA.v3.kept hg (by
      cases hw2 : ((f2 x).getD nilS).ownBlock with
      | none => simp
      | some b => intro e; have e2 := Option.some.inj e; have := ((h.o2 x).lt b hw2).1; omega)
    exact (h1.kept hg3 (fun e => hne (by simpa using e.symm))).mono (Nat.le_succ _)
  refine ⟨hM, hv3, fun y => ?_, fun y => keepR (hA.o3 y) (fun b hb => h.a23 x y b hb), fun y z hyz => ?_, h.a3, fun y z => ?_⟩
  · unfold OwnP updV updG
    by_cases e : y = x
    · subst e
      rw [if_pos rfl, if_pos rfl]
      show W3.ownsRow B 3 1 v' _ _
      have h1 := hown.kept hg3 (own_off hown hm2)
      rw [List.length_append]
      unfold plV at h1 ⊢
      rw [List.map_append, iV_app]
      exact h1
    · rw [if_neg e, if_neg e]
      exact keepR (hA.o2 y) (fun b hb => h.a2 x y (fun h => e h.symm) b hb)
  · unfold updV
    by_cases e1 : y = x
    · rw [if_pos e1]
      rw [if_neg (fun e2 => hyz (e1.trans e2.symm))]
      intro b hb
      exact newB (f2 z) (g2 z) (h.o2 z) b hb (fun b hb => h.a2 x z (fun e2 => hyz (e1.trans e2)) b hb)
    · rw [if_neg e1]
      by_cases e2 : z = x
      · rw [if_pos e2]
        intro b hb hb2
        exact newB (f2 y) (g2 y) (h.o2 y) b hb2 (fun b hb => h.a2 x y (fun e3 => e1 e3.symm) b hb) hb
      · rw [if_neg e2]; exact h.a2 y z hyz
  · unfold updV
    by_cases e1 : y = x
    · rw [if_pos e1]
      intro b hb
      exact newB (f3 z) (g3 z) (h.o3 z) b hb (fun b hb => h.a23 x z b hb)
    · rw [if_neg e1]; exact h.a23 y z
theorem TwoF.gmap (h : TwoF W B m2 m3 n f2 f3 g2 g3) (hn : ∀ x, (g2 x).length ≤ 140737488351232) : GMap W m2 n g2 :=
  ⟨f2, h.v2, fun x => by
    have h1 := h.o2 x
    unfold OwnP plV at h1
    rw [← iV_rec] at h1
    exact IsRec.own intV_len (by omega) h1 (hn x)⟩
theorem TwoF.start (w : World) (B m2 m3 : Nat) (h2 : VMap w m2 0 (fun _ => none)) (h3 : VMap w m3 0 (fun _ => none)) : TwoF w B m2 m3 0 (fun _ => none) (fun _ => none) (fun _ => []) (fun _ => []) :=
  ⟨h2, h3, fun x => World.ownsRow_nil _ _ _ _, fun x => World.ownsRow_nil _ _ _ _, fun x y _ b hb => by simp [nilS, Value.ownBlock] at hb, fun x y _ b hb => by simp [nilS, Value.ownBlock] at hb, fun x y b hb => by simp [nilS, Value.ownBlock] at hb⟩
end
theorem vlook_run {W : World} {b n : Nat} {f : Int → Option Value} (hM : VMap W b n f) {t e : TypeId} (ht : Try.prog.underlying t = some (.map 3 e)) {z : Value} (hz : (zeroValue e).run Try.prog W = .ok z W) (i : Int) (hi : I64 i) (v : Value) (hv : (f i).getD z = v) :
    (Instr.lookup t (.map (some b)) (.int .i64 i) false).run Try.prog W = .ok v W := by
  obtain ⟨D, hown, hd⟩ := hM
  obtain ⟨u, ps, hrun, hu⟩ := hown.lookup law8i ht hz (zd := .held z) (zp := []) rfl (key8i hi)
  rw [hrun]
  rw [(hd i).2] at hu
  rw [← hv]
  cases hf : f i with
  | none => rw [hf] at hu; simp [rawE] at hu; simp [hu.1]
  | some y => rw [hf] at hu; simp [rawE] at hu; simp [hu.1]
theorem vlook_ok_run {W : World} {b n : Nat} {f : Int → Option Value} (hM : VMap W b n f) {t e : TypeId} (ht : Try.prog.underlying t = some (.map 3 e)) {z : Value} (hz : (zeroValue e).run Try.prog W = .ok z W) (i : Int) (hi : I64 i) (v : Value) (hv : (f i).getD z = v) (is : Bool) (his : (f i).isSome = is) :
    (Instr.lookup t (.map (some b)) (.int .i64 i) true).run Try.prog W = .ok (.tuple #[v, .bool is]) W := by
  obtain ⟨D, hown, hd⟩ := hM
  obtain ⟨u, ps, hrun, hu⟩ := hown.look_ok law8i ht hz (zd := .held z) (zp := []) rfl (key8i hi)
  rw [hrun, (hd i).1, his]
  rw [(hd i).2] at hu
  rw [← hv]
  cases hf : f i with
  | none => rw [hf] at hu; simp [rawE] at hu; simp [hu.1]
  | some y => rw [hf] at hu; simp [rawE] at hu; simp [hu.1]
end Go.Proofs.Ytpfpkpaodlmlaaa
