/-
  What (ring.web).take makes of the counts: in lists.
  What (ring.web).take does, whatever is called for who has lost a step.
  A variable that bears a row of numbers; the closures that append to it.
-/
import Derived.Test.YtpfpkpaodlmlaaaGG
import Derived.Test.YtpfpkpaodlmlaaaGH
import Derived.Shelf.Abstract
import Derived.Maps.AppendAt
namespace Go.Proofs.Ytpfpkpaodlmlaaa
set_option maxRecDepth 100000
set_option linter.unusedVariables false
def st1 (c : Cnt) (x : Int) : Cnt := match c x with
  | none => c
  | some p => updC c x (p.1 - 1, p.2)
def st2 (c : Cnt) (x : Int) : Cnt := match c x with
  | none => c
  | some p => updC c x (p.1, p.2 - 1)
def s1 (c : Cnt) (X : List Int) (i : Nat) : Cnt := (X.take i).foldl st1 c
def s2 (c : Cnt) (X : List Int) (i : Nat) : Cnt := (X.take i).foldl st2 c
theorem s1_next (c : Cnt) (X : List Int) (i : Nat) (h : i < X.length) : s1 c X (i + 1) = st1 (s1 c X i) X[i] := by
  unfold s1; rw [List.take_succ_eq_append_getElem h, List.foldl_append]; rfl
theorem s2_next (c : Cnt) (X : List Int) (i : Nat) (h : i < X.length) : s2 c X (i + 1) = st2 (s2 c X i) X[i] := by
  unfold s2; rw [List.take_succ_eq_append_getElem h, List.foldl_append]; rfl
theorem s1_none (c : Cnt) (X : List Int) (i : Nat) (h : i < X.length) (hn : s1 c X i X[i] = none) : s1 c X (i + 1) = s1 c X i := by
  rw [s1_next c X i h, st1, hn]
theorem s2_none (c : Cnt) (X : List Int) (i : Nat) (h : i < X.length) (hn : s2 c X i X[i] = none) : s2 c X (i + 1) = s2 c X i := by
  rw [s2_next c X i h, st2, hn]
theorem s1_some (c : Cnt) (X : List Int) (i : Nat) (h : i < X.length) (p : Int × Int) (hn : s1 c X i X[i] = some p) : s1 c X (i + 1) = updC (s1 c X i) X[i] (p.1 - 1, p.2) := by
  rw [s1_next c X i h, st1, hn]
theorem s2_some (c : Cnt) (X : List Int) (i : Nat) (h : i < X.length) (p : Int × Int) (hn : s2 c X i X[i] = some p) : s2 c X (i + 1) = updC (s2 c X i) X[i] (p.1, p.2 - 1) := by
  rw [s2_next c X i h, st2, hn]
/-- What is known of x behind some of them. -/
theorem s1_at (c : Cnt) (x : Int) : ∀ X : List Int, X.foldl st1 c x = (c x).map fun p => (p.1 - (X.count x : Int), p.2) := by
  intro X
  induction X generalizing c with
  | nil => rw [List.foldl_nil]; cases c x <;> simp
  | cons y X ih =>
    rw [List.foldl_cons, ih (st1 c y)]
    unfold st1
    cases hy : c y with
    | none =>
      simp only
      by_cases e : y = x
      · subst e; rw [hy]; rfl
      · rw [List.count_cons_of_ne e]
    | some p =>
      simp only
      unfold updC
      by_cases e : x = y
      · subst e
        rw [if_pos rfl, hy, List.count_cons_self]
        simp only [Option.map_some, Option.some.injEq, Prod.mk.injEq, and_true]
        omega
      · rw [if_neg e, List.count_cons_of_ne (fun h => e h.symm)]
theorem s2_at (c : Cnt) (x : Int) : ∀ X : List Int, X.foldl st2 c x = (c x).map fun p => (p.1, p.2 - (X.count x : Int)) := by
  intro X
  induction X generalizing c with
  | nil => rw [List.foldl_nil]; cases c x <;> simp
  | cons y X ih =>
    rw [List.foldl_cons, ih (st2 c y)]
    unfold st2
    cases hy : c y with
    | none =>
      simp only
      by_cases e : y = x
      · subst e; rw [hy]; rfl
      · rw [List.count_cons_of_ne e]
    | some p =>
      simp only
      unfold updC
      by_cases e : x = y
      · subst e
        rw [if_pos rfl, hy, List.count_cons_self]
        simp only [Option.map_some, Option.some.injEq, Prod.mk.injEq, true_and]
        omega
      · rw [if_neg e, List.count_cons_of_ne (fun h => e h.symm)]
/-- No count is far off. -/
def bndC (c : Cnt) (k M : Int) : Prop := ∀ x p, c x = some p → -k ≤ p.1 ∧ p.1 ≤ M ∧ -k ≤ p.2 ∧ p.2 ≤ M
theorem bnd_s1 {c : Cnt} {k M : Int} (h : bndC c k M) (X : List Int) (i : Nat) : bndC (s1 c X i) (k + i) M := by
  intro x p hp
  unfold s1 at hp
  rw [s1_at] at hp
  cases hc : c x with
  | none => rw [hc] at hp; cases hp
  | some q =>
    rw [hc] at hp
    simp only [Option.map_some, Option.some.injEq] at hp
    obtain ⟨a1, a2, a3, a4⟩ := h x q hc
    have hcnt : (X.take i).count x ≤ i := Nat.le_trans List.count_le_length (by rw [List.length_take]; omega)
    subst hp
    simp only
    omega
theorem bnd_s2 {c : Cnt} {k M : Int} (h : bndC c k M) (X : List Int) (i : Nat) : bndC (s2 c X i) (k + i) M := by
  intro x p hp
  unfold s2 at hp
  rw [s2_at] at hp
  cases hc : c x with
  | none => rw [hc] at hp; cases hp
  | some q =>
    rw [hc] at hp
    simp only [Option.map_some, Option.some.injEq] at hp
    obtain ⟨a1, a2, a3, a4⟩ := h x q hc
    have hcnt : (X.take i).count x ≤ i := Nat.le_trans List.count_le_length (by rw [List.length_take]; omega)
    subst hp
    simp only
    omega
theorem bnd_del {c : Cnt} {k M : Int} (h : bndC c k M) (x : Int) : bndC (delC c x) k M := by
  intro y p hp
  unfold delC at hp
  by_cases e : y = x
  · rw [if_pos e] at hp; cases hp
  · rw [if_neg e] at hp; exact h y p hp
/-- The numbers that the steps out of x lead to; from which the steps to x come. -/
def outX (l : List Stp) (S : Int → Bool) (x : Int) : List Int := (frL l S x).map fun i => (stA l i).2.1
def inX (l : List Stp) (S : Int → Bool) (x : Int) : List Int := (toL l S x).map fun i => (stA l i).1
/-- All that take does. -/
def takeF (l : List Stp) (S0 : Int → Bool) (c : Cnt) (x : Int) : Cnt := (inX l S0 x).foldl st2 ((outX l S0 x).foldl st1 (delC c x))
def dropB (S : Int → Bool) (x : Int) : Int → Bool := fun u => S u && !decide (u = x)
theorem range_count (l : List Stp) (p : Stp → Bool) : (List.range l.length).countP (fun i => p (stA l i)) = l.countP p := by
  have : l.map p = (List.range l.length).map fun i => p (stA l i) := by
    apply List.ext_getElem
    · simp
    · intro i h1 h2
      have hi : i < l.length := by simpa using h1
      simp only [List.getElem_map, List.getElem_range]
      rw [stA_at l i hi]
  have h2 : (l.map p).countP id = ((List.range l.length).map fun i => p (stA l i)).countP id := by rw [this]
  rw [List.countP_map, List.countP_map] at h2
  exact h2.symm
theorem outX_count (l : List Stp) (S0 : Int → Bool) (x y : Int) (hx : S0 x = true) (hy : S0 y = true) : (outX l S0 x).count y = l.countP fun s => decide (s.1 = x) && decide (s.2.1 = y) := by
  rw [← range_count l (fun s => decide (s.1 = x) && decide (s.2.1 = y))]
  unfold outX frL frK List.count
  rw [List.countP_map, List.countP_filter]
  refine countP_same fun i _ => ?_
  simp only [Function.comp]
  by_cases h1 : (stA l i).1 = x
  · by_cases h2 : (stA l i).2.1 = y
    · simp [h1, h2, hx, hy]
    · simp [h2]
  · simp [h1]
theorem inX_count (l : List Stp) (S0 : Int → Bool) (x y : Int) (hx : S0 x = true) (hy : S0 y = true) : (inX l S0 x).count y = l.countP fun s => decide (s.2.1 = x) && decide (s.1 = y) := by
  rw [← range_count l (fun s => decide (s.2.1 = x) && decide (s.1 = y))]
  unfold inX toL toK List.count
  rw [List.countP_map, List.countP_filter]
  refine countP_same fun i _ => ?_
  simp only [Function.comp]
  by_cases h1 : (stA l i).2.1 = x
  · by_cases h2 : (stA l i).1 = y
    · simp [h1, h2, hx, hy]
    · simp [h2]
  · simp [h1]
theorem countP_split {α : Type} (l : List α) (p q r : α → Bool) (h : ∀ x ∈ l, (if p x then 1 else 0) = (if q x then 1 else 0) + (if r x then (1 : Nat) else 0)) : l.countP p = l.countP q + l.countP r := by
  induction l with
  | nil => rfl
  | cons x l ih =>
    rw [List.countP_cons, List.countP_cons, List.countP_cons, ih (fun y hy => h y (List.mem_cons_of_mem _ hy)), h x (List.mem_cons_self ..)]
    omega
theorem inC_drop (l : List Stp) (S : Int → Bool) (x y : Int) (hx : S x = true) : inC l S y = inC l (dropB S x) y + l.countP fun s => decide (s.1 = x) && decide (s.2.1 = y) := by
  unfold inC
  refine countP_split l _ _ _ fun s _ => ?_
  unfold dropB
  by_cases h1 : s.2.1 = y
  · by_cases h2 : s.1 = x
    · simp [h1, h2, hx]
    · simp [h1, h2]
  · simp [h1]
theorem outC_drop (l : List Stp) (S : Int → Bool) (x y : Int) (hx : S x = true) : outC l S y = outC l (dropB S x) y + l.countP fun s => decide (s.2.1 = x) && decide (s.1 = y) := by
  unfold outC
  refine countP_split l _ _ _ fun s _ => ?_
  unfold dropB
  by_cases h1 : s.1 = y
  · by_cases h2 : s.2.1 = x
    · simp [h1, h2, hx]
    · simp [h1, h2]
  · simp [h1]
/-- What is left without x. -/
theorem takeF_is (l : List Stp) (S0 S : Int → Bool) (x : Int) (hx : S x = true) (hs : ∀ y, S y = true → S0 y = true) : takeF l S0 (cntF l S) x = cntF l (dropB S x) := by
  funext y
  unfold takeF
  rw [s2_at, s1_at]
  unfold delC cntF
  by_cases e : y = x
  · subst e
    rw [if_pos rfl]
    simp [dropB]
  · rw [if_neg e]
    by_cases hy : S y = true
    · have hd : dropB S x y = true := by simp [dropB, hy, e]
      rw [if_pos hy, if_pos hd, outX_count l S0 x y (hs x hx) (hs y hy), inX_count l S0 x y (hs x hx) (hs y hy)]
      have h1 := inC_drop l S x y hx
      have h2 := outC_drop l S x y hx
      simp only [Option.map_some, Option.some.injEq, Prod.mk.injEq]
      omega
    · have hd : dropB S x y = false := by simp [dropB, hy]
      rw [if_neg hy, if_neg (by rw [hd]; decide)]
      rfl
theorem bnd_cntF (l : List Stp) (S : Int → Bool) : bndC (cntF l S) 0 (l.length : Int) := by
  intro x p hp
  unfold cntF at hp
  by_cases h : S x = true
  · rw [if_pos h] at hp
    cases hp
    have h1 : inC l S x ≤ l.length := List.countP_le_length
    have h2 : outC l S x ≤ l.length := List.countP_le_length
    simp only
    omega
  · rw [if_neg h] at hp; cases hp
end Go.Proofs.Ytpfpkpaodlmlaaa
namespace Go.Proofs.Ytpfpkpaodlmlaaa
set_option maxRecDepth 100000
open Go.RowKit Go.Maps
set_option linter.unusedVariables false
attribute [local go_sem] ba_size
/-- While it goes on. -/
structure TkS (Wc V : World) (m1 nb bt : Nat) (cs : Array Value) (c : Cnt) : Prop where
  cm : CMap V m1 nb c
  gr : Wc.grownBy V (some m1)
  bx : SBox V bt tW cs
section
variable {Wc V V' : World} {m1 nb bt : Nat} {cs : Array Value} {c : Cnt}
theorem TkS.bel (h : TkS Wc V m1 nb bt cs c) (hb : Below V.heap.size V V') : TkS Wc V' m1 nb bt cs c :=
  ⟨h.cm.bel hb h.cm.lt, h.gr.trans (grown_below8 _ hb), h.bx.below hb⟩
theorem TkS.map (h : TkS Wc V m1 nb bt cs c) {c' : Cnt} (hc : CMap V' m1 nb c') (hg : V.grownBy V' (some m1)) (hne : bt ≠ m1) : TkS Wc V' m1 nb bt cs c' :=
  ⟨hc, h.gr.trans hg, (hg.block bt h.bx.lt (fun e => hne (by simpa using e))).trans h.bx⟩
theorem TkS.fr (h : TkS Wc V m1 nb bt cs c) {bv : Nat} (hf : Fr Wc.heap.size bv V V') (hm : m1 < Wc.heap.size) (hne : bt ≠ bv) (hv : some bt ≠ vblk V bv) : TkS Wc V' m1 nb bt cs c :=
  ⟨h.cm.bel hf.bel hm, ⟨hf.bel.os.trans h.gr.os, hf.bel.tape.trans h.gr.tape, hf.bel.output.trans h.gr.output, Nat.le_trans h.gr.size hf.bel.size, fun k hk hn => (hf.bel.block k hk).trans (h.gr.block k hk hn)⟩, hf.box h.bx hne hv⟩
end
theorem isMap_lt {W : World} {b : Nat} (h : isMapB W b) : b < W.heap.size := by
  obtain ⟨es, cl, h⟩ := h
  exact (Array.getElem?_eq_some_iff.1 h).1
set_option maxHeartbeats 8000000 in
theorem ptake_in (Wc W : World) (l : List Stp) (N : List Int) (vl vn : Value) (m1 m2 m3 nb : Nat) (hw : Web Wc l N vl vn m1 m2 m3) (c : Cnt) (hM : CMap W m1 nb c) (hnb : nb < 9223372036854775807) (hg : Wc.grownBy W (some m1)) (x : Int) (hx : I64 x) (hb : bndC c 0 (l.length : Int))
    (K : Nat) (hK : ∀ args V, (callFunc K args).run Try.prog V = .ok (.enter K args) V) (caps : Array Value) (bv : Nat) (hbv : bv < W.heap.size) (J1 J2 : Nat → World → Prop) (h0 : J1 0 W) (F T : List Nat) (X1 X2 : List Int) (c0 c1 : Cnt) (hF : frL l (inN N) x = F) (hT : toL l (inN N) x = T) (hX1 : X1 = F.map fun i => (stA l i).2.1) (hX2 : X2 = T.map fun i => (stA l i).1) (hc0 : delC c x = c0) (hc1 : X1.foldl st1 c0 = c1)
    (box1 : ∀ i V b cs, J1 i V → SBox V b tW cs → some b ≠ vblk V bv)
    (keep1 : ∀ i V V', J1 i V → V.grownBy V' (some m1) → J1 i V')
    (call1 : ∀ i (hi : i < X1.length) V, Wc.grownBy V (some m1) → W.heap.size ≤ V.heap.size → (s1 c0 X1 i X1[i]).isSome = true → J1 i V → CMap V m1 nb (s1 c0 X1 (i + 1)) →
      Calls Try.prog K (#[.int .i64 X1[i]] ++ caps) V fun e V' => e = .returned (.tuple #[]) ∧ J1 (i + 1) V' ∧ Fr Wc.heap.size bv V V')
    (skip1 : ∀ i (hi : i < X1.length) V, s1 c0 X1 i X1[i] = none → J1 i V → J1 (i + 1) V)
    (join : ∀ V, J1 X1.length V → J2 0 V)
    (box2 : ∀ i V b cs, J2 i V → SBox V b tW cs → some b ≠ vblk V bv)
    (keep2 : ∀ i V V', J2 i V → V.grownBy V' (some m1) → J2 i V')
    (call2 : ∀ i (hi : i < X2.length) V, Wc.grownBy V (some m1) → W.heap.size ≤ V.heap.size → (s2 c1 X2 i X2[i]).isSome = true → J2 i V → CMap V m1 nb (s2 c1 X2 (i + 1)) →
      Calls Try.prog K (#[.int .i64 X2[i]] ++ caps) V fun e V' => e = .returned (.tuple #[]) ∧ J2 (i + 1) V' ∧ Fr Wc.heap.size bv V V')
    (skip2 : ∀ i (hi : i < X2.length) V, s2 c1 X2 i X2[i] = none → J2 i V → J2 (i + 1) V) :
    Calls Try.prog 28 #[webV vl vn m1 m2 m3, .int .i64 x, .func (.func K) #[] caps] W fun e V' => e = .returned (.tuple #[]) ∧ J2 X2.length V' ∧ CMap V' m1 nb (X2.foldl st2 c1) ∧ Wc.grownBy V' (some m1) := by
  obtain ⟨ff, hF1, hF2⟩ := hw.fr
  obtain ⟨ft, hT1, hT2⟩ := hw.to
  have HW : Hid (Web Wc l N vl vn m1 m2 m3) := hw
  obtain ⟨al, cl, hvl, p1, p2, p3, _⟩ := sts_at hw.sts
  have HSt : Hid (IsSts Wc vl l) := hw.sts
  have hmlt := isMap_lt hw.isM
  have HMp : Hid (isMapB Wc m1) := hw.isM
  have hn2 := hw.ne2
  have hn3 := hw.ne3
  have hfewl := hw.few
  have Hok : Hid (∀ i, i < l.length → I64 (stA l i).1 ∧ I64 (stA l i).2.1) := fun i hi => by
    have := hw.okl _ (stA_mem l i hi)
    exact ⟨this.1, this.2.1⟩
  have HFl : Hid (∀ i ∈ frL l (inN N) x, i < l.length) := frK_lt l (inN N) l.length x
  have HTl : Hid (∀ i ∈ toL l (inN N) x, i < l.length) := toK_lt l (inN N) l.length x
  have hiF := hF2 x
  have hiT := hT2 x
  rw [hF] at hiF HFl
  rw [hT] at hiT HTl
  have hFlen : F.length ≤ l.length := by rw [← hF]; exact frK_len l (inN N) l.length x
  have hTlen : T.length ≤ l.length := by rw [← hT]; exact toK_len l (inN N) l.length x
  have hl1 : X1.length = F.length := by rw [hX1, List.length_map]
  have hl2 : X2.length = T.length := by rw [hX2, List.length_map]
  have HX1 : Hid (∀ i (hi : i < F.length) (hi' : i < X1.length), X1[i] = (stA l F[i]).2.1) := fun i hi hi' => by simp [hX1]
  have HX2 : Hid (∀ i (hi : i < T.length) (hi' : i < X2.length), X2[i] = (stA l T[i]).1) := fun i hi hi' => by simp [hX2]
  have hbd := bnd_del hb x
  have hdel : Hid (delV (fun u => (c u).map cntV) x = fun u => (c0 u).map cntV) := by rw [← hc0]; exact (cmap_del c x).symm
  rw [hc0] at hbd
  have HB1 : Hid (∀ i, bndC (s1 c0 X1 i) i (l.length : Int)) := fun i => by have := bnd_s1 hbd X1 i; rw [Int.zero_add] at this; exact this
  have HB2 : Hid (∀ i, bndC (s2 (X1.foldl st1 c0) X2 i) (X1.length + i) (l.length : Int)) := fun i => by
    have h1 := bnd_s1 hbd X1 X1.length
    rw [show s1 c0 X1 X1.length = X1.foldl st1 c0 by unfold s1; rw [List.take_length], Int.zero_add] at h1
    exact bnd_s2 h1 X2 i
  rw [hc1] at HB2
  have Hc1 : Hid (s1 c0 X1 X1.length = c1) := by show _ = _; rw [← hc1]; unfold s1; rw [List.take_length]
  have Hc2 : Hid (s2 c1 X2 X2.length = X2.foldl st2 c1) := by show _ = _; unfold s2; rw [List.take_length]
  have C1 := Lib.hid call1
  have C2 := Lib.hid call2
  have Sk1 := Lib.hid skip1
  have Sk2 := Lib.hid skip2
  have Ke1 := Lib.hid keep1
  have Bo1 := Lib.hid box1
  have Bo2 := Lib.hid box2
  have Ke2 := Lib.hid keep2
  have HJoin := Lib.hid join
  have HL1 := Lib.hid hl1
  have HL2 := Lib.hid hl2
  have HBd := Lib.hid hbd
  have hWs := hg.size
  subst hvl
  obtain ⟨vF, hvF⟩ : ∃ vF, (ff x).getD nilS = vF := ⟨_, rfl⟩
  obtain ⟨vT, hvT⟩ : ∃ vT, (ft x).getD nilS = vT := ⟨_, rfl⟩
  rw [hvF] at hiF
  rw [hvT] at hiT
  obtain ⟨aF, cF, rfl, f1, f2, f3, _⟩ := ints_at hiF
  obtain ⟨aT, cT, rfl, t1, t2, t3, _⟩ := ints_at hiT
  have HiF := Lib.hid hiF
  have HiT := Lib.hid hiT
  obtain ⟨nl, hnl⟩ : ∃ nl, l.length = nl := ⟨_, rfl⟩
  have HNl := Lib.hid hnl
  obtain ⟨nF, hnF⟩ : ∃ nF, F.length = nF := ⟨_, rfl⟩
  have HNF := Lib.hid hnF
  obtain ⟨nT, hnT⟩ : ∃ nT, T.length = nT := ⟨_, rfl⟩
  have HNT := Lib.hid hnT
  rw [hnF] at hvF f1 f3 hFlen
  rw [hnT] at hvT t1 t3 hTlen
  rw [hnl] at p1 p3 hfewl hFlen hTlen
  rw [hnl]
  have hMa := VMap.kept hM (World.grownBy_alloc W (.cells (webC (.slice al nl cl) vn m1 m2 m3) tW) none) (by simp)
  have hSa := SBox.new W tW (webC (.slice al nl cl) vn m1 m2 m3)
  have hga : Wc.grownBy (W.alloc (.cells (webC (.slice al nl cl) vn m1 m2 m3) tW)) (some m1) := hg.trans (World.grownBy_alloc _ _ _)
  have hJa : Hid (J1 0 (W.alloc (.cells (webC (.slice al nl cl) vn m1 m2 m3) tW))) := keep1 0 _ _ h0 (World.grownBy_alloc _ _ _)
  clear call1 call2 skip1 skip2 keep1 keep2 box1 box2 join hl1 hl2 hX1 hX2 hbd hb hc0 hc1 hF2 hT2 hw hF hT hnF hnT hnl hiF hiT h0 hM hg
  go_enter Try.func28, Try.ntmps28
  have hneW : W.heap.size ≠ m1 := by omega
  go_wp2_with (first
    | (at_delete; refine wpl_delete _ rfl _ _ tML rfl tC Try.underlying41 m1 nb _ rfl hMa x hx rfl ?_; intro wd hMd hgd; rw [hdel.out] at hMd
       have hTd : TkS Wc wd m1 nb W.heap.size (webC (.slice al nl cl) vn m1 m2 m3) c0 := ⟨hMd, hga.trans hgd, (hgd.block _ hSa.lt (fun e => hneW (by simpa using e))).trans hSa⟩
       have HTd := Lib.hid hTd
       have HJd : Hid (J1 0 wd) := Ke1.out 0 _ _ hJa.out hgd
       have hszd : W.heap.size + 1 ≤ wd.heap.size := by have := hgd.size; simp at this; omega
       have hF1d := hF1.kept hTd.gr (fun e => hn2 (by simpa using e))
       have s2d := hTd.bx.cell 3 _ rfl
       clear hTd hMd hgd)
    | (at_lookup; refine wpl_look _ rfl _ _ tMI rfl 22 Try.underlying42 (zeroS _) m2 _ _ rfl hF1d x hx rfl _ hvF ?_))
  clear hMa hSa hga hJa
  go_loopw [20] (fun i wr => ∃ k : Nat, k ≤ nF ∧ i = .int .i64 (k : Int) ∧ Hid (TkS Wc wr m1 nb W.heap.size (webC (.slice al nl cl) vn m1 m2 m3) (s1 c0 X1 k)) ∧ Hid (J1 k wr) ∧ W.heap.size + 1 ≤ wr.heap.size) (fun i _ => nF - (intOf i).toNat)
  case atStart => exact ⟨0, Nat.zero_le _, rfl, HTd, HJd, hszd⟩
  case round =>
    obtain ⟨k, hk, rfl, HS, HJ, hsz⟩ := hrel
    by_cases hlt : k < nF
    · have hkF : k < F.length := by have := HNF.out; omega
      have hkX : k < X1.length := by have := HL1.out; omega
      have j0 : (k : Int) < (nF : Int) := by omega
      have hS := HS.out
      obtain ⟨aF', cF', ef, _, _, _, HFc⟩ := ints_at (HiF.out.turned intV_len (by omega) HMp.out hS.gr)
      obtain ⟨bF, oF, ea, cellF⟩ := HFc.out k hkF
      obtain ⟨al', cl', el, _, _, _, HLc⟩ := sts_at (HSt.out.turned HMp.out hS.gr)
      have hpl : F[k] < l.length := HFl.out _ (List.getElem_mem hkF)
      obtain ⟨bL, oL, eb, cell0, cell1⟩ := HLc.out F[k] hpl
      obtain ⟨rfl, rfl⟩ : aF = aF' ∧ cF = cF' := by simpa using ef
      obtain ⟨rfl, rfl⟩ : al = al' ∧ cl = cl' := by simpa using el
      subst ea eb
      have hxk : X1[k] = (stA l F[k]).2.1 := HX1.out k hkF hkX
      have hIx : I64 X1[k] := by rw [hxk]; exact (Hok.out _ hpl).2
      rw [← hxk] at cell1
      have hb0 := hS.bx.cell 0 _ rfl
      have hbw := hS.bx
      have bw0 := hS.bx.cell 0 _ rfl
      have bw1 := hS.bx.cell 1 _ rfl
      have bw2 := hS.bx.cell 2 _ rfl
      have bw3 := hS.bx.cell 3 _ rfl
      have bw4 := hS.bx.cell 4 _ rfl
      obtain ⟨pl, hpl2⟩ : ∃ pl, F[k] = pl := ⟨_, rfl⟩
      rw [hpl2] at cellF cell0 cell1 hpl
      have hplN : pl < nl := by have := HNl.out; omega
      have jp : (pl : Int) < (nl : Int) := by omega
      have HCk : Hid ((s1 c0 X1 k X1[k]).isSome = true → J1 k wr → True) := fun _ _ => trivial
      have HCall := Lib.hid (C1.out k hkX)
      have HSkip := Lib.hid (Sk1.out k hkX)
      obtain ⟨y, hy⟩ : ∃ y, X1[k] = y := ⟨_, rfl⟩
      have Hy := Lib.hid hy
      rw [hy] at hIx cell1 HCall HSkip
      have CH := fun (bo : Bool) (hbo : (s1 c0 X1 k y).isSome = bo) => phas11_any (.slice (some ⟨bL, oL, none⟩) nl cl) vn m1 m2 m3 nb (s1 c0 X1 k) y wr hIx hS.cm bo hbo
      clear hbw hb0 ef el hxk hpl2 hS
      cases hcy : s1 c0 X1 k y with
      | none =>
        have CH1 := CH false (by rw [hcy]; rfl)
        have HS' : Hid (s1 c0 X1 (k + 1) = s1 c0 X1 k) := by show _ = _; exact s1_none c0 X1 k hkX (by rw [Hy.out]; exact hcy)
        have HJ' : Hid (J1 (k + 1) wr) := HSkip.out wr hcy HJ.out
        clear CH hcy
        go_wp2_with fail
        refine CH1.mono ?_
        rintro e w1 ⟨rfl, b1⟩
        have HS1 : Hid (TkS Wc w1 m1 nb W.heap.size (webC (.slice (some ⟨bL, oL, none⟩) nl cl) vn m1 m2 m3) (s1 c0 X1 (k + 1))) := by show TkS _ _ _ _ _ _ _; rw [HS'.out]; exact HS.out.bel b1
        have HJ1 : Hid (J1 (k + 1) w1) := Ke1.out _ _ _ HJ'.out (grown_below8 _ b1)
        have hsz1 : W.heap.size + 1 ≤ w1.heap.size := by have := b1.size; omega
        go_wp2_with fail
        refine ⟨⟨k + 1, by omega, by first | go_num | simp, HS1, HJ1, hsz1⟩, by simp [intOf]; omega⟩
      | some p =>
        have CH1 := CH true (by rw [hcy]; rfl)
        have hbp := HB1.out k y p hcy
        have HS' : Hid (s1 c0 X1 (k + 1) = updC (s1 c0 X1 k) y (p.1 - 1, p.2)) := by
          show _ = _
          have := s1_some c0 X1 k hkX p (by rw [Hy.out]; exact hcy)
          rw [Hy.out] at this
          exact this
        have hlX := HL1.out
        have hnX := HNF.out
        skip
        have hcy2 := Lib.hid hcy
        clear CH
        go_wp2_with fail
        refine CH1.mono ?_
        rintro e w1 ⟨rfl, b1⟩
        have hS1 := HS.out.bel b1
        have HS1 := Lib.hid hS1
        have HJ1 : Hid (J1 k w1) := Ke1.out _ _ _ HJ.out (grown_below8 _ b1)
        have bv0 := hS1.bx.cell 0 _ rfl
        have bv1 := hS1.bx.cell 1 _ rfl
        have bv2 := hS1.bx.cell 2 _ rfl
        have bv3 := hS1.bx.cell 3 _ rfl
        have bv4 := hS1.bx.cell 4 _ rfl
        have CMo := pmore11_any (.slice (some ⟨bL, oL, none⟩) nl cl) vn m1 m2 m3 nb (s1 c0 X1 k) y w1 hIx hS1.cm p (-1, 0) (p.1 - 1, p.2) hcy2.out hnb (by show p.1 + -1 = p.1 - 1; omega) (by show p.2 + 0 = p.2; omega) (by show I64 (p.1 - 1); exact ⟨by omega, by omega⟩) (by show I64 p.2; exact ⟨by omega, by omega⟩)
        have hsz1 : W.heap.size + 1 ≤ w1.heap.size := by have := b1.size; omega
        clear hS1 hcy hbp
        go_wp2_with fail
        refine CMo.mono ?_
        rintro e w2 ⟨rfl, hm2, g2⟩
        rw [← HS'.out] at hm2
        have hS2 := HS1.out.map hm2 g2 (by omega)
        have HS2 := Lib.hid hS2
        have HJ2 : J1 k w2 := Ke1.out _ _ _ HJ1.out g2
        have HVb : Hid (some W.heap.size ≠ vblk w2 bv) := Bo1.out k w2 _ _ HJ2 hS2.bx
        have hsz2 : W.heap.size + 1 ≤ w2.heap.size := by have := g2.size; omega
        have CC := HCall.out w2 hS2.gr (by omega) (by rw [hcy2.out]; rfl) HJ2 hm2
        clear hS2 HJ2 hm2
        go_wp2_with fail
        refine CC.mono ?_
        rintro e w3 ⟨rfl, hj3, fr3⟩
        have HS3 : Hid (TkS Wc w3 m1 nb W.heap.size (webC (.slice (some ⟨bL, oL, none⟩) nl cl) vn m1 m2 m3) (s1 c0 X1 (k + 1))) := HS2.out.fr fr3 hmlt (by omega) HVb.out
        have HJ3 := Lib.hid hj3
        have hsz3 : W.heap.size + 1 ≤ w3.heap.size := by have := fr3.bel.size; omega
        clear hj3
        go_wp2_with fail
        refine ⟨⟨k + 1, by omega, by first | go_num | simp, HS3, HJ3, hsz3⟩, by simp [intOf]; omega⟩
    · obtain rfl : k = nF := by omega
      have jq : ¬ (k : Int) < (k : Int) := by omega
      have HSe : Hid (TkS Wc wr m1 nb W.heap.size (webC (.slice al nl cl) vn m1 m2 m3) c1) := by show TkS _ _ _ _ _ _ _; rw [← Hc1.out, HL1.out, HNF.out]; exact HS.out
      have HTe : Hid (TkS Wc wr m1 nb W.heap.size (webC (.slice al nl cl) vn m1 m2 m3) (s2 c1 X2 0)) := HSe.out
      have HJe : Hid (J2 0 wr) := HJoin.out wr (by rw [HL1.out, HNF.out]; exact HJ.out)
      have hT1e := hT1.kept HSe.out.gr (fun e => hn3 (by simpa using e))
      have s4e := HSe.out.bx.cell 4 _ rfl
      go_wp2_with (at_lookup; refine wpl_look _ rfl _ _ tMI rfl 22 Try.underlying42 (zeroS _) m3 _ _ rfl hT1e x hx rfl _ hvT ?_)
      go_wp2_with fail
      have hsze := hsz
      clear hT1e s4e HSe hsz HS HJ
      go_loopw [46] (fun i wr => ∃ k : Nat, k ≤ nT ∧ i = .int .i64 (k : Int) ∧ Hid (TkS Wc wr m1 nb W.heap.size (webC (.slice al nl cl) vn m1 m2 m3) (s2 c1 X2 k)) ∧ Hid (J2 k wr) ∧ W.heap.size + 1 ≤ wr.heap.size) (fun i _ => nT - (intOf i).toNat)
      case atStart => exact ⟨0, Nat.zero_le _, rfl, HTe, HJe, hsze⟩
      case round =>
        obtain ⟨k, hk, rfl, HS, HJ, hsz⟩ := hrel
        by_cases hlt : k < nT
        · have hkF : k < T.length := by have := HNT.out; omega
          have hkX : k < X2.length := by have := HL2.out; omega
          have j0 : (k : Int) < (nT : Int) := by omega
          have hS := HS.out
          obtain ⟨aF', cF', ef, _, _, _, HFc⟩ := ints_at (HiT.out.turned intV_len (by omega) HMp.out hS.gr)
          obtain ⟨bF, oF, ea, cellF⟩ := HFc.out k hkF
          obtain ⟨al', cl', el, _, _, _, HLc⟩ := sts_at (HSt.out.turned HMp.out hS.gr)
          have hpl : T[k] < l.length := HTl.out _ (List.getElem_mem hkF)
          obtain ⟨bL, oL, eb, cell0, cell1⟩ := HLc.out T[k] hpl
          obtain ⟨rfl, rfl⟩ : aT = aF' ∧ cT = cF' := by simpa using ef
          obtain ⟨rfl, rfl⟩ : al = al' ∧ cl = cl' := by simpa using el
          subst ea eb
          have hxk : X2[k] = (stA l T[k]).1 := HX2.out k hkF hkX
          have hIx : I64 X2[k] := by rw [hxk]; exact (Hok.out _ hpl).1
          rw [← hxk] at cell0
          have hb0 := hS.bx.cell 0 _ rfl
          have hbw := hS.bx
          have bw0 := hS.bx.cell 0 _ rfl
          have bw1 := hS.bx.cell 1 _ rfl
          have bw2 := hS.bx.cell 2 _ rfl
          have bw3 := hS.bx.cell 3 _ rfl
          have bw4 := hS.bx.cell 4 _ rfl
          obtain ⟨pl, hpl2⟩ : ∃ pl, T[k] = pl := ⟨_, rfl⟩
          rw [hpl2] at cellF cell0 cell1 hpl
          have hplN : pl < nl := by have := HNl.out; omega
          have jp : (pl : Int) < (nl : Int) := by omega
          have HCk : Hid ((s2 c1 X2 k X2[k]).isSome = true → J2 k wr → True) := fun _ _ => trivial
          have HCall := Lib.hid (C2.out k hkX)
          have HSkip := Lib.hid (Sk2.out k hkX)
          obtain ⟨y, hy⟩ : ∃ y, X2[k] = y := ⟨_, rfl⟩
          have Hy := Lib.hid hy
          rw [hy] at hIx cell0 HCall HSkip
          have CH := fun (bo : Bool) (hbo : (s2 c1 X2 k y).isSome = bo) => phas11_any (.slice (some ⟨bL, oL, none⟩) nl cl) vn m1 m2 m3 nb (s2 c1 X2 k) y wr hIx hS.cm bo hbo
          clear hbw hb0 ef el hxk hpl2 hS
          cases hcy : s2 c1 X2 k y with
          | none =>
            have CH1 := CH false (by rw [hcy]; rfl)
            have HS' : Hid (s2 c1 X2 (k + 1) = s2 c1 X2 k) := by show _ = _; exact s2_none c1 X2 k hkX (by rw [Hy.out]; exact hcy)
            have HJ' : Hid (J2 (k + 1) wr) := HSkip.out wr hcy HJ.out
            clear CH hcy
            go_wp2_with fail
            refine CH1.mono ?_
            rintro e w1 ⟨rfl, b1⟩
            have HS1 : Hid (TkS Wc w1 m1 nb W.heap.size (webC (.slice (some ⟨bL, oL, none⟩) nl cl) vn m1 m2 m3) (s2 c1 X2 (k + 1))) := by show TkS _ _ _ _ _ _ _; rw [HS'.out]; exact HS.out.bel b1
            have HJ1 : Hid (J2 (k + 1) w1) := Ke2.out _ _ _ HJ'.out (grown_below8 _ b1)
            have hsz1 : W.heap.size + 1 ≤ w1.heap.size := by have := b1.size; omega
            go_wp2_with fail
            refine ⟨⟨k + 1, by omega, by first | go_num | simp, HS1, HJ1, hsz1⟩, by simp [intOf]; omega⟩
          | some p =>
            have CH1 := CH true (by rw [hcy]; rfl)
            have hbp := HB2.out k y p hcy
            have HS' : Hid (s2 c1 X2 (k + 1) = updC (s2 c1 X2 k) y (p.1, p.2 - 1)) := by
              show _ = _
              have := s2_some c1 X2 k hkX p (by rw [Hy.out]; exact hcy)
              rw [Hy.out] at this
              exact this
            have hlX := HL2.out
            have hnX := HNT.out
            have hl1X := HL1.out; have hn1X := HNF.out
            have hcy2 := Lib.hid hcy
            clear CH
            go_wp2_with fail
            refine CH1.mono ?_
            rintro e w1 ⟨rfl, b1⟩
            have hS1 := HS.out.bel b1
            have HS1 := Lib.hid hS1
            have HJ1 : Hid (J2 k w1) := Ke2.out _ _ _ HJ.out (grown_below8 _ b1)
            have bv0 := hS1.bx.cell 0 _ rfl
            have bv1 := hS1.bx.cell 1 _ rfl
            have bv2 := hS1.bx.cell 2 _ rfl
            have bv3 := hS1.bx.cell 3 _ rfl
            have bv4 := hS1.bx.cell 4 _ rfl
            have CMo := pmore11_any (.slice (some ⟨bL, oL, none⟩) nl cl) vn m1 m2 m3 nb (s2 c1 X2 k) y w1 hIx hS1.cm p (0, -1) (p.1, p.2 - 1) hcy2.out hnb (by show p.1 + 0 = p.1; omega) (by show p.2 + -1 = p.2 - 1; omega) (by show I64 p.1; exact ⟨by omega, by omega⟩) (by show I64 (p.2 - 1); exact ⟨by omega, by omega⟩)
            have hsz1 : W.heap.size + 1 ≤ w1.heap.size := by have := b1.size; omega
            clear hS1 hcy hbp
            go_wp2_with fail
            refine CMo.mono ?_
            rintro e w2 ⟨rfl, hm2, g2⟩
            rw [← HS'.out] at hm2
            have hS2 := HS1.out.map hm2 g2 (by omega)
            have HS2 := Lib.hid hS2
            have HJ2 : J2 k w2 := Ke2.out _ _ _ HJ1.out g2
            have HVb : Hid (some W.heap.size ≠ vblk w2 bv) := Bo2.out k w2 _ _ HJ2 hS2.bx
            have hsz2 : W.heap.size + 1 ≤ w2.heap.size := by have := g2.size; omega
            have CC := HCall.out w2 hS2.gr (by omega) (by rw [hcy2.out]; rfl) HJ2 hm2
            clear hS2 HJ2 hm2
            go_wp2_with fail
            refine CC.mono ?_
            rintro e w3 ⟨rfl, hj3, fr3⟩
            have HS3 : Hid (TkS Wc w3 m1 nb W.heap.size (webC (.slice (some ⟨bL, oL, none⟩) nl cl) vn m1 m2 m3) (s2 c1 X2 (k + 1))) := HS2.out.fr fr3 hmlt (by omega) HVb.out
            have HJ3 := Lib.hid hj3
            have hsz3 : W.heap.size + 1 ≤ w3.heap.size := by have := fr3.bel.size; omega
            clear hj3
            go_wp2_with fail
            refine ⟨⟨k + 1, by omega, by first | go_num | simp, HS3, HJ3, hsz3⟩, by simp [intOf]; omega⟩
        · obtain rfl : k = nT := by omega
          have jq : ¬ (k : Int) < (k : Int) := by omega
          have HSe : Hid (CMap wr m1 nb (X2.foldl st2 c1)) := by show CMap _ _ _ _; rw [← Hc2.out, HL2.out, HNT.out]; exact HS.out.cm
          have HJe : Hid (J2 X2.length wr) := by show J2 _ _; rw [HL2.out, HNT.out]; exact HJ.out
          have HGe : Hid (Wc.grownBy wr (some m1)) := HS.out.gr
          go_wp2_with fail
          go_end0
          exact ⟨rfl, HJe.out, HSe.out, HGe.out⟩
theorem ptake11_any (Wc W : World) (l : List Stp) (N : List Int) (vl vn : Value) (m1 m2 m3 nb : Nat) (hw : Web Wc l N vl vn m1 m2 m3) (c : Cnt) (hM : CMap W m1 nb c) (hnb : nb < 9223372036854775807) (hg : Wc.grownBy W (some m1)) (x : Int) (hx : I64 x) (hb : bndC c 0 (l.length : Int))
    (K : Nat) (hK : ∀ args V, (callFunc K args).run Try.prog V = .ok (.enter K args) V) (caps : Array Value) (bv : Nat) (hbv : bv < W.heap.size) (J1 J2 : Nat → World → Prop) (h0 : J1 0 W)
    (box1 : ∀ i V b cs, J1 i V → SBox V b tW cs → some b ≠ vblk V bv)
    (keep1 : ∀ i V V', J1 i V → V.grownBy V' (some m1) → J1 i V')
    (call1 : ∀ i (hi : i < (outX l (inN N) x).length) V, Wc.grownBy V (some m1) → W.heap.size ≤ V.heap.size → (s1 (delC c x) (outX l (inN N) x) i (outX l (inN N) x)[i]).isSome = true → J1 i V → CMap V m1 nb (s1 (delC c x) (outX l (inN N) x) (i + 1)) →
      Calls Try.prog K (#[.int .i64 (outX l (inN N) x)[i]] ++ caps) V fun e V' => e = .returned (.tuple #[]) ∧ J1 (i + 1) V' ∧ Fr Wc.heap.size bv V V')
    (skip1 : ∀ i (hi : i < (outX l (inN N) x).length) V, s1 (delC c x) (outX l (inN N) x) i (outX l (inN N) x)[i] = none → J1 i V → J1 (i + 1) V)
    (join : ∀ V, J1 (outX l (inN N) x).length V → J2 0 V)
    (box2 : ∀ i V b cs, J2 i V → SBox V b tW cs → some b ≠ vblk V bv)
    (keep2 : ∀ i V V', J2 i V → V.grownBy V' (some m1) → J2 i V')
    (call2 : ∀ i (hi : i < (inX l (inN N) x).length) V, Wc.grownBy V (some m1) → W.heap.size ≤ V.heap.size → (s2 ((outX l (inN N) x).foldl st1 (delC c x)) (inX l (inN N) x) i (inX l (inN N) x)[i]).isSome = true → J2 i V → CMap V m1 nb (s2 ((outX l (inN N) x).foldl st1 (delC c x)) (inX l (inN N) x) (i + 1)) →
      Calls Try.prog K (#[.int .i64 (inX l (inN N) x)[i]] ++ caps) V fun e V' => e = .returned (.tuple #[]) ∧ J2 (i + 1) V' ∧ Fr Wc.heap.size bv V V')
    (skip2 : ∀ i (hi : i < (inX l (inN N) x).length) V, s2 ((outX l (inN N) x).foldl st1 (delC c x)) (inX l (inN N) x) i (inX l (inN N) x)[i] = none → J2 i V → J2 (i + 1) V) :
    Calls Try.prog 28 #[webV vl vn m1 m2 m3, .int .i64 x, .func (.func K) #[] caps] W fun e V' => e = .returned (.tuple #[]) ∧ J2 (inX l (inN N) x).length V' ∧ CMap V' m1 nb (takeF l (inN N) c x) ∧ Wc.grownBy V' (some m1) := by
  exact ptake_in Wc W l N vl vn m1 m2 m3 nb hw c hM hnb hg x hx hb K hK caps bv hbv J1 J2 h0 _ _ _ _ _ _ rfl rfl rfl rfl rfl rfl box1 keep1 call1 skip1 join box2 keep2 call2 skip2
end Go.Proofs.Ytpfpkpaodlmlaaa
namespace Go.Proofs.Ytpfpkpaodlmlaaa
set_option maxRecDepth 100000
open Go.RowKit Go.Maps
set_option linter.unusedVariables false
attribute [local go_sem] ba_size
abbrev tI : TypeId := 22
def VrS (W : World) (B bv : Nat) (a : List Int) : Prop := B ≤ bv ∧ ∃ v, Boxed W bv tI v ∧ W.ownsRow B 3 1 v a.length (iV a)
theorem VrS.bel {W W' : World} {B bv : Nat} {a : List Int} (h : VrS W B bv a) (hb : Below W.heap.size W W') : VrS W' B bv a := by
  obtain ⟨h0, v, h1, h2⟩ := h
  exact ⟨h0, v, (hb.block bv h1.lt).trans h1, h2.kept (grown_below8 none hb) (by cases v.ownBlock <;> simp)⟩
theorem VrS.lt {W : World} {B bv : Nat} {a : List Int} (h : VrS W B bv a) : bv < W.heap.size := by obtain ⟨_, v, hb, _⟩ := h; exact hb.lt
theorem VrS.vb {W : World} {B bv : Nat} {a : List Int} (h : VrS W B bv a) {b : Nat} {t : TypeId} {cs : Array Value} (hb : SBox W b t cs) (ht : t ≠ 3) : some b ≠ vblk W bv := by
  obtain ⟨_, v, hbx, hrow⟩ := h
  rw [vblk_of hbx]
  exact block_not_row hb ht hrow
theorem VrS.turn {W W' : World} {B bv m1 : Nat} {a : List Int} (h : VrS W B bv a) (hg : W.grownBy W' (some m1)) (hm : m1 < B) : VrS W' B bv a := by
  obtain ⟨hB, v, hbx, hrow⟩ := h
  exact ⟨hB, v, hbx.kept hg (fun e => by have := Option.some.inj e; omega), hrow.kept hg (own_off hrow hm)⟩
set_option maxHeartbeats 2000000 in
theorem pappR_any (W : World) (B bv : Nat) (a : List Int) (x : Int) (h : VrS W B bv a) (hn : a.length < 17592186044416) :
    Calls Try.prog 37 #[.int .i64 x, .pointer (some ⟨bv, 0, none⟩)] W fun e W' => e = .returned (.tuple #[]) ∧ VrS W' B bv (a ++ [x]) ∧ Fr B bv W W' := by
  obtain ⟨i0, hi, hz0, hz1, hz2⟩ := info_parts int_info
  obtain ⟨hB, v, hb, hrow⟩ := h
  have hlt := hb.lt
  have hne := block_not_row hb (by decide) hrow
  have HHb := Lib.hid hb
  have HHr := Lib.hid hrow
  obtain ⟨ad, c, rfl⟩ := own_shape11 hrow
  obtain ⟨n, hnn⟩ : ∃ n, a.length = n := ⟨_, rfl⟩
  have HN : Hid (a.length = n) := hnn
  have p0 := hb.cell
  rw [hnn] at hrow hn p0 hne
  clear hnn hb
  go_enter Try.func37, Try.ntmps37
  go_wp2_with (at_builtin; refine wpList_append_own_at _ rfl _ _ 22 rfl B 3 i0 (.int .i64 0) 1 8 Try.underlying22 hi hz0 hz1 hz2 rfl (by decide) (.slice ad n c) _ _ rfl (hrow.alloc _) ⟨W.heap.size, 0, none⟩ 1 1 [.int .i64 x] rfl rfl ?a1 ?a2 ?a3 ?a4 ?a5 ?_)
  case a1 => intro j u hj; match j, hj with
    | 0, hj => simp at hj; subst hj; simp [Addr.add]
  case a2 => intro u hu; simp at hu; subst hu; rfl
  case a3 => unfold maxLen; omega
  case a4 => omega
  case a5 => simp; omega
  intro r3 w3 hown3 hg3 _ hat3
  obtain ⟨ad3, c3, rfl⟩ := own_shape11 hown3
  have hbA : Boxed (W.alloc (.cells #[.int .i64 x] 3)) bv tI (.slice ad n c) := by have := HHb.out.alloc (.cells #[.int .i64 x] 3); rw [HN.out] at this; exact this
  have hb3 : Boxed w3 bv tI (.slice ad n c) := (hg3.block bv hbA.lt hne).trans hbA
  have B3 : Fr B bv W w3 := ((Fr.refl B bv W).alloc (by omega) hlt _).row (hrow.alloc _) hbA (by decide) hg3 (by simp; omega)
  have p3 := hb3.cell
  have f3 := hb3.frozen
  have HB3 := Lib.hid hb3
  clear hbA hb3
  go_wp2_with fail
  go_end0
  have hne3 : (Value.slice ad3 (n + 1) c3).ownBlock ≠ some bv := fun e => by
    rcases hat3 with e1 | e1
    · exact hne (by rw [← e1, e])
    · rw [e] at e1; have e3 := Option.some.inj e1; (try simp at e3); omega
  refine ⟨rfl, ⟨hB, _, HB3.out.set _, ?_⟩, B3.set hB HB3.out _ (by
    have hb9 := HHb.out
    rw [HN.out] at hb9
    rw [vblk_of hb9]
    rcases hat3 with e1 | e1
    · exact .inl e1
    · exact .inr ⟨_, e1, by first | (simp; done) | omega⟩)⟩
  rw [List.length_append, HN.out, iV_app]
  exact owns_keep7 hown3 _ (fun e => hne3 e.symm)
theorem enters_pappR : ∀ args V, (callFunc 37 args).run Try.prog V = .ok (.enter 37 args) V := enters_of Try.func37 (by kernel_rfl) rfl
set_option maxHeartbeats 2000000 in
theorem pappS_any (W : World) (B bv : Nat) (a : List Int) (x : Int) (h : VrS W B bv a) (hn : a.length < 17592186044416) :
    Calls Try.prog 48 #[.int .i64 x, .pointer (some ⟨bv, 0, none⟩)] W fun e W' => e = .returned (.tuple #[]) ∧ VrS W' B bv (a ++ [x]) ∧ Fr B bv W W' := by
  obtain ⟨i0, hi, hz0, hz1, hz2⟩ := info_parts int_info
  obtain ⟨hB, v, hb, hrow⟩ := h
  have hlt := hb.lt
  have hne := block_not_row hb (by decide) hrow
  have HHb := Lib.hid hb
  have HHr := Lib.hid hrow
  obtain ⟨ad, c, rfl⟩ := own_shape11 hrow
  obtain ⟨n, hnn⟩ : ∃ n, a.length = n := ⟨_, rfl⟩
  have HN : Hid (a.length = n) := hnn
  have p0 := hb.cell
  rw [hnn] at hrow hn p0 hne
  clear hnn hb
  go_enter Try.func48, Try.ntmps48
  go_wp2_with (at_builtin; refine wpList_append_own_at _ rfl _ _ 22 rfl B 3 i0 (.int .i64 0) 1 8 Try.underlying22 hi hz0 hz1 hz2 rfl (by decide) (.slice ad n c) _ _ rfl (hrow.alloc _) ⟨W.heap.size, 0, none⟩ 1 1 [.int .i64 x] rfl rfl ?a1 ?a2 ?a3 ?a4 ?a5 ?_)
  case a1 => intro j u hj; match j, hj with
    | 0, hj => simp at hj; subst hj; simp [Addr.add]
  case a2 => intro u hu; simp at hu; subst hu; rfl
  case a3 => unfold maxLen; omega
  case a4 => omega
  case a5 => simp; omega
  intro r3 w3 hown3 hg3 _ hat3
  obtain ⟨ad3, c3, rfl⟩ := own_shape11 hown3
  have hbA : Boxed (W.alloc (.cells #[.int .i64 x] 3)) bv tI (.slice ad n c) := by have := HHb.out.alloc (.cells #[.int .i64 x] 3); rw [HN.out] at this; exact this
  have hb3 : Boxed w3 bv tI (.slice ad n c) := (hg3.block bv hbA.lt hne).trans hbA
  have B3 : Fr B bv W w3 := ((Fr.refl B bv W).alloc (by omega) hlt _).row (hrow.alloc _) hbA (by decide) hg3 (by simp; omega)
  have p3 := hb3.cell
  have f3 := hb3.frozen
  have HB3 := Lib.hid hb3
  clear hbA hb3
  go_wp2_with fail
  go_end0
  have hne3 : (Value.slice ad3 (n + 1) c3).ownBlock ≠ some bv := fun e => by
    rcases hat3 with e1 | e1
    · exact hne (by rw [← e1, e])
    · rw [e] at e1; have e3 := Option.some.inj e1; (try simp at e3); omega
  refine ⟨rfl, ⟨hB, _, HB3.out.set _, ?_⟩, B3.set hB HB3.out _ (by
    have hb9 := HHb.out
    rw [HN.out] at hb9
    rw [vblk_of hb9]
    rcases hat3 with e1 | e1
    · exact .inl e1
    · exact .inr ⟨_, e1, by first | (simp; done) | omega⟩)⟩
  rw [List.length_append, HN.out, iV_app]
  exact owns_keep7 hown3 _ (fun e => hne3 e.symm)
theorem enters_pappS : ∀ args V, (callFunc 48 args).run Try.prog V = .ok (.enter 48 args) V := enters_of Try.func48 (by kernel_rfl) rfl
theorem ptakeR_any (Wc W : World) (l : List Stp) (N : List Int) (vl vn : Value) (m1 m2 m3 : Nat) (hw : Web Wc l N vl vn m1 m2 m3) (S : Int → Bool) (hS : ∀ y, S y = true → y ∈ N) (hM : CMap W m1 17592186044416 (cntF l S)) (hg : Wc.grownBy W (some m1)) (x : Int) (hxS : S x = true)
    (B bv : Nat) (hB : Wc.heap.size ≤ B) (a : List Int) (hV : VrS W B bv a) (I : World → Prop) (hI0 : I W) (hIk : ∀ V V', I V → V.grownBy V' (some m1) → I V') (hIf : ∀ V V' a, I V → VrS V B bv a → Fr B bv V V' → I V') (M : Nat) (hM9 : M ≤ 17592186044416) (hla : a.length + (outX l (inN N) x).length + (inX l (inN N) x).length ≤ M) (okA : ∀ y ∈ a, y ∈ N) :
    Calls Try.prog 28 #[webV vl vn m1 m2 m3, .int .i64 x, .func (.func 37) #[] #[.pointer (some ⟨bv, 0, none⟩)]] W fun e V' => e = .returned (.tuple #[]) ∧ (∃ a', VrS V' B bv a' ∧ a'.length ≤ a.length + (outX l (inN N) x).length + (inX l (inN N) x).length ∧ ∀ y ∈ a', y ∈ N) ∧ I V' ∧ CMap V' m1 17592186044416 (cntF l (dropB S x)) ∧ Wc.grownBy V' (some m1) := by
  have hm1 := isMap_lt hw.isM
  have hS0 : ∀ y, S y = true → inN N y = true := fun y hy => by unfold inN; simpa using hS y hy
  have hout' : ∀ y ∈ outX l (inN N) x, y ∈ N := fun y hm => by
    unfold outX at hm
    obtain ⟨j, hj, e⟩ := List.mem_map.1 hm
    have := ((fr_mem l (inN N) x j).1 hj).2.2.2
    rw [← e]
    unfold inN at this
    simpa using this
  have hout : ∀ i (hi : i < (outX l (inN N) x).length), (outX l (inN N) x)[i] ∈ N := fun i hi => hout' _ (List.getElem_mem hi)
  have hin' : ∀ y ∈ inX l (inN N) x, y ∈ N := fun y hm => by
    unfold inX at hm
    obtain ⟨j, hj, e⟩ := List.mem_map.1 hm
    have := ((to_mem l (inN N) x j).1 hj).2.2.1
    rw [← e]
    unfold inN at this
    simpa using this
  have hin : ∀ i (hi : i < (inX l (inN N) x).length), (inX l (inN N) x)[i] ∈ N := fun i hi => hin' _ (List.getElem_mem hi)
  refine (ptake11_any Wc W l N vl vn m1 m2 m3 17592186044416 hw (cntF l S) hM (by omega) hg x (hw.okN x (hS x hxS)) (bnd_cntF l S) 37 enters_pappR #[.pointer (some ⟨bv, 0, none⟩)] bv hV.lt
    (fun i V => (∃ a', VrS V B bv a' ∧ a'.length ≤ a.length + i ∧ ∀ y ∈ a', y ∈ N) ∧ I V)
    (fun i V => (∃ a', VrS V B bv a' ∧ a'.length ≤ a.length + (outX l (inN N) x).length + i ∧ ∀ y ∈ a', y ∈ N) ∧ I V)
    ⟨⟨a, hV, by omega, okA⟩, hI0⟩ ?b1 ?k1 ?c1 ?s1 ?j ?b2 ?k2 ?c2 ?s2).mono ?_
  case b1 => rintro i V bb cs ⟨⟨a', hA, _⟩, _⟩ hb; exact hA.vb hb (by decide)
  case b2 => rintro i V bb cs ⟨⟨a', hA, _⟩, _⟩ hb; exact hA.vb hb (by decide)
  case k1 => rintro i V V' ⟨⟨a', hA, h1, h2⟩, hI⟩ hg; exact ⟨⟨a', hA.turn hg (by omega), h1, h2⟩, hIk _ _ hI hg⟩
  case k2 => rintro i V V' ⟨⟨a', hA, h1, h2⟩, hI⟩ hg; exact ⟨⟨a', hA.turn hg (by omega), h1, h2⟩, hIk _ _ hI hg⟩
  case s1 => rintro i hi V hn ⟨⟨a', hA, h1, h2⟩, hI⟩; exact ⟨⟨a', hA, by omega, h2⟩, hI⟩
  case s2 => rintro i hi V hn ⟨⟨a', hA, h1, h2⟩, hI⟩; exact ⟨⟨a', hA, by omega, h2⟩, hI⟩
  case j => rintro V ⟨⟨a', hA, h1, h2⟩, hI⟩; exact ⟨⟨a', hA, by omega, h2⟩, hI⟩
  case c1 =>
    rintro i hi V hgV hsz his ⟨⟨a', hA, h1, h2⟩, hI⟩ hMV
    refine (pappR_any V B bv a' (outX l (inN N) x)[i] hA (by omega)).mono ?_
    rintro e V' ⟨he, hA', fr⟩
    refine ⟨he, ⟨⟨_, hA', by rw [List.length_append]; simp; omega, fun y hy => ?_⟩, hIf _ _ _ hI hA fr⟩, fr.mono hB⟩
    rcases List.mem_append.1 hy with hy | hy
    · exact h2 y hy
    · rw [List.mem_singleton] at hy; rw [hy]; exact hout i hi
  case c2 =>
    rintro i hi V hgV hsz his ⟨⟨a', hA, h1, h2⟩, hI⟩ hMV
    refine (pappR_any V B bv a' (inX l (inN N) x)[i] hA (by omega)).mono ?_
    rintro e V' ⟨he, hA', fr⟩
    refine ⟨he, ⟨⟨_, hA', by rw [List.length_append]; simp; omega, fun y hy => ?_⟩, hIf _ _ _ hI hA fr⟩, fr.mono hB⟩
    rcases List.mem_append.1 hy with hy | hy
    · exact h2 y hy
    · rw [List.mem_singleton] at hy; rw [hy]; exact hin i hi
  · rintro e V' ⟨he, ⟨hA, hI⟩, hc, hg⟩
    rw [takeF_is l (inN N) S x hxS hS0] at hc
    exact ⟨he, hA, hI, hc, hg⟩
theorem ptakeS_any (Wc W : World) (l : List Stp) (N : List Int) (vl vn : Value) (m1 m2 m3 : Nat) (hw : Web Wc l N vl vn m1 m2 m3) (S : Int → Bool) (hS : ∀ y, S y = true → y ∈ N) (hM : CMap W m1 17592186044416 (cntF l S)) (hg : Wc.grownBy W (some m1)) (x : Int) (hxS : S x = true)
    (B bv : Nat) (hB : Wc.heap.size ≤ B) (a : List Int) (hV : VrS W B bv a) (I : World → Prop) (hI0 : I W) (hIk : ∀ V V', I V → V.grownBy V' (some m1) → I V') (hIf : ∀ V V' a, I V → VrS V B bv a → Fr B bv V V' → I V') (M : Nat) (hM9 : M ≤ 17592186044416) (hla : a.length + (outX l (inN N) x).length + (inX l (inN N) x).length ≤ M) (okA : ∀ y ∈ a, y ∈ N) :
    Calls Try.prog 28 #[webV vl vn m1 m2 m3, .int .i64 x, .func (.func 48) #[] #[.pointer (some ⟨bv, 0, none⟩)]] W fun e V' => e = .returned (.tuple #[]) ∧ (∃ a', VrS V' B bv a' ∧ a'.length ≤ a.length + (outX l (inN N) x).length + (inX l (inN N) x).length ∧ ∀ y ∈ a', y ∈ N) ∧ I V' ∧ CMap V' m1 17592186044416 (cntF l (dropB S x)) ∧ Wc.grownBy V' (some m1) := by
  have hm1 := isMap_lt hw.isM
  have hS0 : ∀ y, S y = true → inN N y = true := fun y hy => by unfold inN; simpa using hS y hy
  have hout' : ∀ y ∈ outX l (inN N) x, y ∈ N := fun y hm => by
    unfold outX at hm
    obtain ⟨j, hj, e⟩ := List.mem_map.1 hm
    have := ((fr_mem l (inN N) x j).1 hj).2.2.2
    rw [← e]
    unfold inN at this
    simpa using this
  have hout : ∀ i (hi : i < (outX l (inN N) x).length), (outX l (inN N) x)[i] ∈ N := fun i hi => hout' _ (List.getElem_mem hi)
  have hin' : ∀ y ∈ inX l (inN N) x, y ∈ N := fun y hm => by
    unfold inX at hm
    obtain ⟨j, hj, e⟩ := List.mem_map.1 hm
    have := ((to_mem l (inN N) x j).1 hj).2.2.1
    rw [← e]
    unfold inN at this
    simpa using this
  have hin : ∀ i (hi : i < (inX l (inN N) x).length), (inX l (inN N) x)[i] ∈ N := fun i hi => hin' _ (List.getElem_mem hi)
  refine (ptake11_any Wc W l N vl vn m1 m2 m3 17592186044416 hw (cntF l S) hM (by omega) hg x (hw.okN x (hS x hxS)) (bnd_cntF l S) 48 enters_pappS #[.pointer (some ⟨bv, 0, none⟩)] bv hV.lt
    (fun i V => (∃ a', VrS V B bv a' ∧ a'.length ≤ a.length + i ∧ ∀ y ∈ a', y ∈ N) ∧ I V)
    (fun i V => (∃ a', VrS V B bv a' ∧ a'.length ≤ a.length + (outX l (inN N) x).length + i ∧ ∀ y ∈ a', y ∈ N) ∧ I V)
    ⟨⟨a, hV, by omega, okA⟩, hI0⟩ ?b1 ?k1 ?c1 ?s1 ?j ?b2 ?k2 ?c2 ?s2).mono ?_
  case b1 => rintro i V bb cs ⟨⟨a', hA, _⟩, _⟩ hb; exact hA.vb hb (by decide)
  case b2 => rintro i V bb cs ⟨⟨a', hA, _⟩, _⟩ hb; exact hA.vb hb (by decide)
  case k1 => rintro i V V' ⟨⟨a', hA, h1, h2⟩, hI⟩ hg; exact ⟨⟨a', hA.turn hg (by omega), h1, h2⟩, hIk _ _ hI hg⟩
  case k2 => rintro i V V' ⟨⟨a', hA, h1, h2⟩, hI⟩ hg; exact ⟨⟨a', hA.turn hg (by omega), h1, h2⟩, hIk _ _ hI hg⟩
  case s1 => rintro i hi V hn ⟨⟨a', hA, h1, h2⟩, hI⟩; exact ⟨⟨a', hA, by omega, h2⟩, hI⟩
  case s2 => rintro i hi V hn ⟨⟨a', hA, h1, h2⟩, hI⟩; exact ⟨⟨a', hA, by omega, h2⟩, hI⟩
  case j => rintro V ⟨⟨a', hA, h1, h2⟩, hI⟩; exact ⟨⟨a', hA, by omega, h2⟩, hI⟩
  case c1 =>
    rintro i hi V hgV hsz his ⟨⟨a', hA, h1, h2⟩, hI⟩ hMV
    refine (pappS_any V B bv a' (outX l (inN N) x)[i] hA (by omega)).mono ?_
    rintro e V' ⟨he, hA', fr⟩
    refine ⟨he, ⟨⟨_, hA', by rw [List.length_append]; simp; omega, fun y hy => ?_⟩, hIf _ _ _ hI hA fr⟩, fr.mono hB⟩
    rcases List.mem_append.1 hy with hy | hy
    · exact h2 y hy
    · rw [List.mem_singleton] at hy; rw [hy]; exact hout i hi
  case c2 =>
    rintro i hi V hgV hsz his ⟨⟨a', hA, h1, h2⟩, hI⟩ hMV
    refine (pappS_any V B bv a' (inX l (inN N) x)[i] hA (by omega)).mono ?_
    rintro e V' ⟨he, hA', fr⟩
    refine ⟨he, ⟨⟨_, hA', by rw [List.length_append]; simp; omega, fun y hy => ?_⟩, hIf _ _ _ hI hA fr⟩, fr.mono hB⟩
    rcases List.mem_append.1 hy with hy | hy
    · exact h2 y hy
    · rw [List.mem_singleton] at hy; rw [hy]; exact hin i hi
  · rintro e V' ⟨he, ⟨hA, hI⟩, hc, hg⟩
    rw [takeF_is l (inN N) S x hxS hS0] at hc
    exact ⟨he, hA, hI, hc, hg⟩
end Go.Proofs.Ytpfpkpaodlmlaaa
