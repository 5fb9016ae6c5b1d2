/-
  Rings of steps that avoid some numbers; which one is the shortest: in lists.
  Who reaches a number in the fewest steps, as ring's shortest finds it: in lists.
  What shortest's closure does: a number that is reached.
  What (ring.web).shortest answers.
-/
import Derived.Test.YtpfpkpaodlmlaaaGI
import Derived.Test.YtpfpkpaodlmlaaaGF
import Derived.Test.YtpfpkpaodlmlaaaZP11Wv
import Derived.WalkMore
import Derived.Deep.LoopGhost
namespace Go.Proofs.Ytpfpkpaodlmlaaa
set_option maxRecDepth 100000
set_option linter.unusedVariables false
/-- A ring of n steps, through f 0, f 1, .. -/
def Cyc (l : List Stp) (n : Nat) (f : Nat → Int) : Prop := 1 ≤ n ∧ f n = f 0 ∧ ∀ i, i < n → ∃ s ∈ l, s.1 = f i ∧ s.2.1 = f (i + 1)
theorem cyc_of_walk {l : List Stp} {n : Nat} {x : Int} (h1 : 1 ≤ n) (h : Walk l n x x) : ∃ f, f 0 = x ∧ Cyc l n f := by
  obtain ⟨f, f0, fn, hf⟩ := h.along
  exact ⟨f, f0, h1, by rw [fn, f0], hf⟩
theorem walk_of_cyc {l : List Stp} {n : Nat} {f : Nat → Int} (h : Cyc l n f) : Walk l n (f 0) (f 0) := by
  have := walk_part h.2.2 n 0 (by omega)
  rw [Nat.zero_add, h.2.1] at this
  exact this
/-- The steps between some numbers. -/
def lS (l : List Stp) (S : Int → Bool) : List Stp := l.filter fun s => S s.1 && S s.2.1
theorem lS_mem (l : List Stp) (S : Int → Bool) (s : Stp) : s ∈ lS l S ↔ s ∈ l ∧ S s.1 = true ∧ S s.2.1 = true := by
  unfold lS; rw [List.mem_filter, Bool.and_eq_true]
theorem Walk.sub {l m : List Stp} (h : ∀ s ∈ l, s ∈ m) {n : Nat} {x y : Int} (hw : Walk l n x y) : Walk m n x y := by
  induction hw using Walk.elim with
  | nil x => exact .nil x
  | cons s n y hs _ ih => exact .cons s n y (h s hs) ih
theorem walk_lS {l : List Stp} {S : Int → Bool} {n : Nat} {x y : Int} (h : Walk (lS l S) n x y) : Walk l n x y := h.sub fun s hs => ((lS_mem l S s).1 hs).1
/-- A way along numbers of S lies in S. -/
theorem part_lS {l : List Stp} {S : Int → Bool} {f : Nat → Int} {n : Nat} (hf : ∀ i, i < n → ∃ s ∈ l, s.1 = f i ∧ s.2.1 = f (i + 1)) (hS : ∀ i, i ≤ n → S (f i) = true) (d i : Nat) (h : i + d ≤ n) : Walk (lS l S) d (f i) (f (i + d)) :=
  walk_part (l := lS l S) (n := n) (fun j hj => by
    obtain ⟨s, h1, h2, h3⟩ := hf j hj
    exact ⟨s, (lS_mem l S s).2 ⟨h1, by rw [h2]; exact hS j (by omega), by rw [h3]; exact hS (j + 1) (by omega)⟩, h2, h3⟩) d i h
/-- All rings that avoid T lie in S. -/
def AllIn (l : List Stp) (T S : Int → Bool) : Prop := ∀ n f, Cyc l n f → (∀ i, i < n → T (f i) = false) → ∀ i, i < n → S (f i) = true
theorem cyc_pred {l : List Stp} {n : Nat} {f : Nat → Int} (h : Cyc l n f) (i : Nat) (hi : i < n) : ∃ j, j < n ∧ ∃ s ∈ l, s.1 = f j ∧ s.2.1 = f i := by
  rcases Nat.eq_zero_or_pos i with h0 | h0
  · obtain ⟨s, a, b, c⟩ := h.2.2 (n - 1) (by have := h.1; omega)
    rw [show n - 1 + 1 = n by have := h.1; omega, h.2.1] at c
    exact ⟨n - 1, by have := h.1; omega, s, a, b, by rw [h0]; exact c⟩
  · obtain ⟨s, a, b, c⟩ := h.2.2 (i - 1) (by omega)
    rw [show i - 1 + 1 = i by omega] at c
    exact ⟨i - 1, by omega, s, a, b, c⟩
theorem cyc_succ {l : List Stp} {n : Nat} {f : Nat → Int} (h : Cyc l n f) (i : Nat) (hi : i < n) : ∃ j, j < n ∧ ∃ s ∈ l, s.1 = f i ∧ s.2.1 = f j := by
  obtain ⟨s, a, b, c⟩ := h.2.2 i hi
  rcases Nat.lt_or_ge (i + 1) n with h1 | h1
  · exact ⟨i + 1, h1, s, a, b, c⟩
  · have e : i + 1 = n := by omega
    rw [e, h.2.1] at c
    exact ⟨0, by omega, s, a, b, c⟩
theorem AllIn.strip {l : List Stp} {T S : Int → Bool} (h : AllIn l T S) (x : Int) (hx : inC l S x = 0 ∨ outC l S x = 0) : AllIn l T (dropB S x) := by
  intro n f hc hT i hi
  have hS := h n f hc hT
  unfold dropB
  rw [hS i hi]
  simp only [Bool.true_and, Bool.not_eq_true', decide_eq_false_iff_not]
  intro e
  rcases hx with hx | hx
  · obtain ⟨j, hj, s, s1, s2, s3⟩ := cyc_pred hc i hi
    unfold inC at hx
    rw [List.countP_eq_zero] at hx
    have := hx s s1
    simp only [Bool.and_eq_true, decide_eq_true_eq] at this
    exact this ⟨by rw [s3, e], by rw [s2]; exact hS j hj⟩
  · obtain ⟨j, hj, s, s1, s2, s3⟩ := cyc_succ hc i hi
    unfold outC at hx
    rw [List.countP_eq_zero] at hx
    have := hx s s1
    simp only [Bool.and_eq_true, decide_eq_true_eq] at this
    exact this ⟨by rw [s2, e], by rw [s3]; exact hS j hj⟩
def addB (T : Int → Bool) (x : Int) : Int → Bool := fun u => T u || decide (u = x)
theorem AllIn.take {l : List Stp} {T S : Int → Bool} (h : AllIn l T S) (x : Int) : AllIn l (addB T x) (dropB S x) := by
  intro n f hc hT i hi
  have h1 : ∀ i, i < n → T (f i) = false ∧ f i ≠ x := fun i hi => by
    have := hT i hi
    unfold addB at this
    simpa using this
  have hS := h n f hc (fun i hi => (h1 i hi).1) i hi
  unfold dropB
  rw [hS]
  simpa using (h1 i hi).2
/-- The best so far: where it begins, how many steps. -/
def BestOk (l : List Stp) (T : Int → Bool) : Option (Int × Nat) → Prop
  | none => ∀ n f, Cyc l n f → ∀ i, i < n → T (f i) = false
  | some b => (∀ n f, Cyc l n f → (∃ i, i < n ∧ T (f i) = true) → b.2 ≤ n) ∧ 1 ≤ b.2 ∧ Walk l b.2 b.1 b.1 ∧ ∀ y, y < b.1 → ¬ Walk l b.2 y y
def mostOf : Option (Int × Nat) → Nat
  | none => 0
  | some b => b.2
/-- A ring of fewer steps than the best one lies in S. -/
theorem short_in {l : List Stp} {T S : Int → Bool} {best : Option (Int × Nat)} (hA : AllIn l T S) (hB : BestOk l T best) {n : Nat} {f : Nat → Int} (hc : Cyc l n f) (hn : mostOf best = 0 ∨ n < mostOf best) : ∀ i, i < n → S (f i) = true := by
  refine hA n f hc fun i hi => ?_
  cases best with
  | none => exact hB n f hc i hi
  | some b =>
    cases h : T (f i) with
    | false => rfl
    | true =>
      have := hB.1 n f hc ⟨i, hi, h⟩
      have := hB.2.1
      simp only [mostOf] at hn
      omega
theorem cyc_all {l : List Stp} {S : Int → Bool} {n : Nat} {f : Nat → Int} (hc : Cyc l n f) (h : ∀ i, i < n → S (f i) = true) : ∀ i, i ≤ n → S (f i) = true := fun i hi => by
  rcases Nat.lt_or_ge i n with h1 | h1
  · exact h i h1
  · obtain rfl : i = n := by omega
    rw [hc.2.1]
    exact h 0 (by have := hc.1; omega)
/-- What is told of the shortest ring through a number. -/
def ShOk (l : List Stp) (S : Int → Bool) (start : Int) (most many : Nat) (away : Int → Option Nat) : Prop :=
  (many = 0 → ∀ n, 1 ≤ n → (most = 0 ∨ n < most) → ¬ Walk (lS l S) n start start) ∧
  (0 < many → Walk (lS l S) many start start ∧ (most = 0 ∨ many < most) ∧ (∀ n, 1 ≤ n → Walk (lS l S) n start start → many ≤ n) ∧
    ∀ y d, d < many → (away y = some d ↔ Walk (lS l S) d y start ∧ ∀ d', d' < d → ¬ Walk (lS l S) d' y start))
/-- A better one. -/
theorem best_new {l : List Stp} {T S : Int → Bool} {best : Option (Int × Nat)} {start : Int} {many : Nat} {away : Int → Option Nat} (N : List Int) (k : Nat) (hk : k < N.length) (hN : N.Pairwise (· < ·)) (hst : N[k] = start) (hSN : ∀ x, S x = true → x ∈ N) (hD : ∀ x ∈ N.take k, S x = false)
    (hA : AllIn l T S) (hB : BestOk l T best) (hsh : ShOk l S start (mostOf best) many away) (h0 : 0 < many) : BestOk l (addB T start) (some (start, many)) := by
  obtain ⟨w1, w2, w3, w4⟩ := hsh.2 h0
  refine ⟨fun n f hc hex => ?_, h0, walk_lS w1, fun y hy hw => ?_⟩
  · simp only
    rcases Nat.lt_or_ge n many with hlt | hge
    · exfalso
      have hin := short_in hA hB hc (by omega)
      obtain ⟨i, hi, hTi⟩ := hex
      have hall := cyc_all hc hin
      by_cases hTT : T (f i) = true
      · cases best with
        | none => rw [hB n f hc i hi] at hTT; cases hTT
        | some b => have := hB.1 n f hc ⟨i, hi, hTT⟩; have := hB.2.1; simp only [mostOf] at w2; omega
      · have hfi : f i = start := by
          unfold addB at hTi
          simpa [hTT] using hTi
        have h1 := part_lS hc.2.2 hall (n - i) i (by omega)
        rw [show i + (n - i) = n by omega, hc.2.1] at h1
        have h2 := part_lS hc.2.2 hall i 0 (by omega)
        rw [Nat.zero_add] at h2
        have h3 := h1.append h2
        rw [show n - i + i = n by omega, hfi] at h3
        have := w3 n hc.1 h3
        omega
    · exact hge
  · simp only at hw hy
    obtain ⟨f, f0, hc⟩ := cyc_of_walk h0 hw
    have hin := short_in hA hB hc w2 0 (by omega)
    rw [f0] at hin
    have hyN := hSN y hin
    obtain ⟨j, hj, e⟩ := List.getElem_of_mem hyN
    have hjk : j < k := by
      rcases Nat.lt_or_ge j k with h | h
      · exact h
      · exfalso
        rcases Nat.lt_or_ge k j with h' | h'
        · have := (List.pairwise_iff_getElem.1 hN) k j hk hj h'
          omega
        · obtain rfl : j = k := by omega
          omega
    have : y ∈ N.take k := by
      rw [← e]
      exact List.mem_take_iff_getElem.2 ⟨j, by omega, rfl⟩
    rw [hD y this] at hin
    cases hin
/-- None that is better. -/
theorem best_same {l : List Stp} {T S : Int → Bool} {best : Option (Int × Nat)} {start : Int} {away : Int → Option Nat} (hA : AllIn l T S) (hB : BestOk l T best) (hsh : ShOk l S start (mostOf best) 0 away) : BestOk l (addB T start) best := by
  have key : ∀ n f, Cyc l n f → (mostOf best = 0 ∨ n < mostOf best) → ∀ i, i < n → f i ≠ start := fun n f hc hn i hi e => by
    have hall := cyc_all hc (short_in hA hB hc hn)
    have h1 := part_lS hc.2.2 hall (n - i) i (by omega)
    rw [show i + (n - i) = n by omega, hc.2.1] at h1
    have h2 := part_lS hc.2.2 hall i 0 (by omega)
    rw [Nat.zero_add] at h2
    have h3 := h1.append h2
    rw [show n - i + i = n by omega, e] at h3
    exact hsh.1 rfl n hc.1 hn h3
  cases best with
  | none =>
    intro n f hc i hi
    unfold addB
    rw [hB n f hc i hi]
    simpa using key n f hc (.inl rfl) i hi
  | some b =>
    refine ⟨fun n f hc hex => ?_, hB.2⟩
    rcases Nat.lt_or_ge n b.2 with hlt | hge
    · obtain ⟨i, hi, hTi⟩ := hex
      unfold addB at hTi
      rw [Bool.or_eq_true] at hTi
      rcases hTi with h | h
      · exact hB.1 n f hc ⟨i, hi, h⟩
      · exact absurd (by simpa using h) (key n f hc (.inr hlt) i hi)
    · exact hge
/-- What `walk` needs. -/
def AwOk (l : List Stp) (start : Int) (many : Nat) (away : Int → Option Nat) : Prop := ∀ (j rest : Nat) (s : Stp), s ∈ l → Walk l j start s.1 → j + 1 + rest = many → (away s.2.1 = some rest ↔ Walk l rest s.2.1 start)
theorem aw_ok {l : List Stp} {T S : Int → Bool} {best : Option (Int × Nat)} {start : Int} {many : Nat} {away : Int → Option Nat} (hA : AllIn l T S) (hB : BestOk l T best) (hsh : ShOk l S start (mostOf best) many away) (h0 : 0 < many) : AwOk l start many away := by
  obtain ⟨w1, w2, w3, w4⟩ := hsh.2 h0
  intro j rest s hs hj hjr
  constructor
  · intro h
    exact walk_lS ((w4 _ rest (by omega)).1 h).1
  · intro h
    obtain ⟨f, f0, fj, hf⟩ := hj.along
    obtain ⟨g, g0, gr, hg⟩ := h.along
    obtain ⟨F, hF⟩ : ∃ F : Nat → Int, ∀ i, F i = if i ≤ j then f i else g (i - (j + 1)) := ⟨_, fun i => rfl⟩
    have hF0 : F 0 = start := by rw [hF, if_pos (by omega), f0]
    have hFn : F many = start := by rw [hF, if_neg (by omega), show many - (j + 1) = rest by omega, gr]
    have hFj : F (j + 1) = s.2.1 := by rw [hF, if_neg (by omega), Nat.sub_self, g0]
    have hstep : ∀ i, i < many → ∃ t ∈ l, t.1 = F i ∧ t.2.1 = F (i + 1) := fun i hi => by
      rcases Nat.lt_trichotomy i j with h1 | h1 | h1
      · rw [hF, hF, if_pos (by omega), if_pos (by omega)]
        exact hf i h1
      · subst h1
        exact ⟨s, hs, by rw [hF, if_pos (by omega), fj], hFj.symm⟩
      · rw [hF, hF, if_neg (by omega), if_neg (by omega), show i + 1 - (j + 1) = i - (j + 1) + 1 by omega]
        exact hg (i - (j + 1)) (by omega)
    have hc : Cyc l many F := ⟨h0, by rw [hFn, hF0], hstep⟩
    have hall := cyc_all hc (short_in hA hB hc w2)
    have p1 := part_lS hstep hall rest (j + 1) (by omega)
    rw [show j + 1 + rest = many by omega, hFn, hFj] at p1
    refine (w4 _ rest (by omega)).2 ⟨p1, fun d' hd hw => ?_⟩
    have p2 := part_lS hstep hall (j + 1) 0 (by omega)
    rw [Nat.zero_add, hF0, hFj] at p2
    have := w3 (j + 1 + d') (by omega) (p2.append hw)
    omega
/-- All are done. -/
theorem ring_end {l : List Stp} {T S : Int → Bool} {best : Option (Int × Nat)} (N : List Int) (hN : ∀ s ∈ l, s.1 ∈ N) (hD : ∀ x ∈ N, S x = false) (hA : AllIn l T S) (hB : BestOk l T best) : match best with
    | none => ringL l = none
    | some b => ringL l = some (ringPath l b.1 b.2 b.1) := by
  have hit : ∀ n f, Cyc l n f → ∃ i, i < n ∧ T (f i) = true := fun n f hc => by
    apply Classical.byContradiction
    intro hno
    have := hA n f hc (fun i hi => by
      cases h : T (f i) with
      | false => rfl
      | true => exact absurd ⟨i, hi, h⟩ hno) 0 (by have := hc.1; omega)
    obtain ⟨s, s1, s2, s3⟩ := hc.2.2 0 (by have := hc.1; omega)
    rw [hD (f 0) (by rw [← s2]; exact hN s s1)] at this
    cases this
  cases best with
  | none =>
    simp only
    cases hr : ringL l with
    | none => rfl
    | some r =>
      exfalso
      obtain ⟨h1, h2, _⟩ := ring_some l r hr
      obtain ⟨a, h3, h4⟩ := closed_walk h1 h2
      obtain ⟨f, _, hc⟩ := cyc_of_walk h3 h4
      obtain ⟨i, hi, hT⟩ := hit _ f hc
      rw [hB _ f hc i hi] at hT
      cases hT
  | some b =>
    simp only
    obtain ⟨b1, b2, b3, b4⟩ := hB
    have hmin : ∀ n x, 1 ≤ n → Walk l n x x → b.2 ≤ n := fun n x h1 hw => by
      obtain ⟨f, _, hc⟩ := cyc_of_walk h1 hw
      exact b1 n f hc (hit n f hc)
    obtain ⟨m', y, g1, g2, g3, g4⟩ := ring_short l b.2 b.1 b2 b3
    have hle := hmin m' y g1 g4
    have hat : ringAt l b.2 = some b.1 := by
      have hst : b.1 ∈ startsL l := (starts_mem l b.1).2 (by rw [show b.2 = b.2 - 1 + 1 by omega] at b3; exact b3.start)
      cases hr : ringAt l b.2 with
      | none =>
        unfold ringAt at hr
        rw [List.find?_eq_none] at hr
        exact absurd ((way_iff l b.1 b.2 b.1).2 b3) (hr b.1 hst)
      | some r =>
        obtain ⟨r1, r2, r3⟩ := ring_at l b.2 r hr
        have h1 := r3 b.1 hst b3
        have h2 : ¬ r < b.1 := fun h => b4 r h r2
        rw [show r = b.1 by omega]
    have := ringL_some l (b.2 - 1) b.1 (by omega) (fun j hj1 hj2 => ringAt_none l j (fun q hq => by
      cases hw : wayB l (startsL l)[q] j (startsL l)[q] with
      | false => rfl
      | true =>
        have := hmin j _ hj1 ((way_iff l _ j _).1 hw)
        omega)) (by rw [show b.2 - 1 + 1 = b.2 by omega]; exact hat)
    rw [show b.2 - 1 + 1 = b.2 by omega] at this
    exact this
theorem all_start (l : List Stp) (S : Int → Bool) (h : ∀ s ∈ l, S s.1 = true) : AllIn l (fun _ => false) S := by
  intro n f hc _ i hi
  obtain ⟨s, a, b, _⟩ := hc.2.2 i hi
  rw [← b]
  exact h s a
theorem best_start (l : List Stp) : BestOk l (fun _ => false) none := fun n f hc i hi => rfl
end Go.Proofs.Ytpfpkpaodlmlaaa
namespace Go.Proofs.Ytpfpkpaodlmlaaa
set_option maxRecDepth 100000
set_option linter.unusedVariables false
/-- How far away, as far as it is known. -/
def aw (Q : List (Int × Nat)) (x : Int) : Option Nat := (Q.find? fun p => decide (p.1 = x)).map (·.2)
theorem aw_some {Q : List (Int × Nat)} (hn : (Q.map (·.1)).Nodup) (x : Int) (d : Nat) : aw Q x = some d ↔ (x, d) ∈ Q := by
  unfold aw
  constructor
  · intro h
    cases hf : Q.find? fun p => decide (p.1 = x) with
    | none => rw [hf] at h; cases h
    | some p =>
      rw [hf] at h
      have h1 := List.find?_some hf
      have h2 := List.mem_of_find?_eq_some hf
      simp only [decide_eq_true_eq] at h1
      simp only [Option.map_some, Option.some.injEq] at h
      rw [← h1, ← h]
      exact h2
  · intro h
    cases hf : Q.find? fun p => decide (p.1 = x) with
    | none =>
      have := List.find?_eq_none.1 hf (x, d) h
      simp at this
    | some p =>
      have h1 := List.find?_some hf
      have h2 := List.mem_of_find?_eq_some hf
      simp only [decide_eq_true_eq] at h1
      have h3 : p = (x, d) := by
        obtain ⟨i, hi, e1⟩ := List.getElem_of_mem h2
        obtain ⟨j, hj, e2⟩ := List.getElem_of_mem h
        have hpw := List.pairwise_iff_getElem.1 (List.nodup_iff_pairwise_ne.1 hn)
        have : i = j := by
          rcases Nat.lt_trichotomy i j with h' | h' | h'
          · have h4 := hpw i j (by simpa using hi) (by simpa using hj) h'
            rw [List.getElem_map, List.getElem_map, e1, e2] at h4
            exact absurd h1 h4
          · exact h'
          · have h4 := hpw j i (by simpa using hj) (by simpa using hi) h'
            rw [List.getElem_map, List.getElem_map, e1, e2] at h4
            exact absurd h1.symm h4
        subst this
        rw [← e1, e2]
      rw [h3]; rfl
theorem aw_none (Q : List (Int × Nat)) (x : Int) : aw Q x = none ↔ ∀ d, (x, d) ∉ Q := by
  unfold aw
  rw [Option.map_eq_none_iff, List.find?_eq_none]
  constructor
  · intro h d hd
    have := h (x, d) hd
    simp at this
  · intro h p hp
    simp only [decide_eq_true_eq]
    intro e
    exact h p.2 (by rw [← e]; exact hp)
theorem aw_push (Q : List (Int × Nat)) (x : Int) (d : Nat) (h : aw Q x = none) : aw (Q ++ [(x, d)]) = fun u => if u = x then some d else aw Q u := by
  funext u
  unfold aw at h ⊢
  rw [List.find?_append]
  by_cases e : u = x
  · subst e
    rw [if_pos rfl]
    rw [Option.map_eq_none_iff] at h
    rw [h]
    simp
  · rw [if_neg e]
    have e' : ¬ x = u := fun h => e h.symm
    simp [e']
structure Bfs (l : List Stp) (S : Int → Bool) (start : Int) (Q : List (Int × Nat)) (i : Nat) : Prop where
  q0 : Q[0]? = some (start, 0)
  nd : (Q.map (·.1)).Nodup
  srt : Q.Pairwise fun a b => a.2 ≤ b.2
  wk : ∀ p ∈ Q, S p.1 = true ∧ Walk (lS l S) p.2 p.1 start
  cl : ∀ j (hj : j < Q.length), j < i → ∀ s ∈ lS l S, s.2.1 = Q[j].1 → s.1 ≠ start ∧ ∃ d, (s.1, d) ∈ Q ∧ d ≤ Q[j].2 + 1
  up : ∀ (hi : i < Q.length), ∀ p ∈ Q, p.2 ≤ Q[i].2 + 1
theorem bfs_start (l : List Stp) (S : Int → Bool) (start : Int) (h : S start = true) : Bfs l S start [(start, 0)] 0 := by
  refine ⟨rfl, by simp, List.pairwise_singleton _ _, fun p hp => ?_, fun j hj h0 => by omega, fun hi p hp => ?_⟩
  · rw [List.mem_singleton] at hp; subst hp; exact ⟨h, Walk.nil start⟩
  · rw [List.mem_singleton] at hp; subst hp; simp
theorem Bfs.sorted_at {l : List Stp} {S : Int → Bool} {start : Int} {Q : List (Int × Nat)} {i : Nat} (h : Bfs l S start Q i) (a b : Nat) (ha : a < Q.length) (hb : b < Q.length) (hab : a ≤ b) : Q[a].2 ≤ Q[b].2 := by
  rcases Nat.lt_or_ge a b with h1 | h1
  · exact (List.pairwise_iff_getElem.1 h.srt) a b ha hb h1
  · obtain rfl : a = b := by omega
    exact Nat.le_refl _
/-- Whoever reaches it in so few steps is known. -/
theorem Bfs.known {l : List Stp} {S : Int → Bool} {start : Int} {Q : List (Int × Nat)} {i : Nat} (h : Bfs l S start Q i) (M : Nat) (hM : ∀ (hi : i < Q.length), M ≤ Q[i].2) : ∀ (n : Nat) (x : Int), n ≤ M → Walk (lS l S) n x start → ∃ d, (x, d) ∈ Q ∧ d ≤ n := by
  intro n
  induction n with
  | zero =>
    intro x _ hw
    have e : x = start := hw
    subst e
    exact ⟨0, List.mem_of_getElem? h.q0, Nat.le_refl _⟩
  | succ n ih =>
    intro x hn hw
    obtain ⟨s, hs, hw', rfl⟩ := hw
    obtain ⟨d, hd, hdn⟩ := ih s.2.1 (by omega) hw'
    obtain ⟨j, hj, e⟩ := List.getElem_of_mem hd
    have hji : j < i := by
      rcases Nat.lt_or_ge j i with h1 | h1
      · exact h1
      · exfalso
        have hi : i < Q.length := by omega
        have h2 := h.sorted_at i j hi hj h1
        have h3 := hM hi
        rw [e] at h2
        simp only at h2
        omega
    obtain ⟨_, d', h1, h2⟩ := h.cl j hj hji s hs (by rw [e])
    rw [e] at h2
    exact ⟨d', h1, by simp only at h2; omega⟩
/-- No ring of so few steps. -/
theorem Bfs.none {l : List Stp} {S : Int → Bool} {start : Int} {Q : List (Int × Nat)} {i : Nat} (h : Bfs l S start Q i) (M : Nat) (hM : ∀ (hi : i < Q.length), M ≤ Q[i].2) (n : Nat) (h1 : 1 ≤ n) (hn : n ≤ M) : ¬ Walk (lS l S) n start start := by
  intro hw
  obtain ⟨m, rfl⟩ : ∃ m, n = m + 1 := ⟨n - 1, by omega⟩
  obtain ⟨s, hs, hw', e⟩ := hw
  obtain ⟨d, hd, hdn⟩ := h.known M hM m s.2.1 (by omega) hw'
  obtain ⟨j, hj, e2⟩ := List.getElem_of_mem hd
  have hji : j < i := by
    rcases Nat.lt_or_ge j i with h1 | h1
    · exact h1
    · exfalso
      have hi : i < Q.length := by omega
      have h2 := h.sorted_at i j hi hj h1
      have h3 := hM hi
      rw [e2] at h2
      simp only at h2
      omega
  exact (h.cl j hj hji s hs (by rw [e2])).1 e.symm
/-- While the steps to one of them are gone through. -/
structure BfsP (l : List Stp) (S S0 : Int → Bool) (start : Int) (Q : List (Int × Nat)) (i e : Nat) : Prop where
  b : Bfs l S start Q i
  hi : i < Q.length
  pt : ∀ e' (h : e' < (toL l S0 Q[i].1).length), e' < e → (stA l (toL l S0 Q[i].1)[e']).1 ≠ start ∧ (S (stA l (toL l S0 Q[i].1)[e']).1 = true → ∃ d, ((stA l (toL l S0 Q[i].1)[e']).1, d) ∈ Q ∧ d ≤ Q[i].2 + 1)
theorem bfsP_start {l : List Stp} {S S0 : Int → Bool} {start : Int} {Q : List (Int × Nat)} {i : Nat} (h : Bfs l S start Q i) (hi : i < Q.length) : BfsP l S S0 start Q i 0 := ⟨h, hi, fun e' _ h0 => by omega⟩
/-- One that is known, or not left. -/
theorem BfsP.skip {l : List Stp} {S S0 : Int → Bool} {start : Int} {Q : List (Int × Nat)} {i e : Nat} (h : BfsP l S S0 start Q i e) (he : e < (toL l S0 (Q[i]'h.hi).1).length) (hne : (stA l (toL l S0 (Q[i]'h.hi).1)[e]).1 ≠ start) (hk : aw Q (stA l (toL l S0 (Q[i]'h.hi).1)[e]).1 ≠ Option.none ∨ S (stA l (toL l S0 (Q[i]'h.hi).1)[e]).1 = false) : BfsP l S S0 start Q i (e + 1) := by
  refine ⟨h.b, h.hi, fun e' h1 h2 => ?_⟩
  rcases Nat.lt_succ_iff_lt_or_eq.1 h2 with h3 | rfl
  · exact h.pt e' h1 h3
  · refine ⟨hne, fun hS => ?_⟩
    rcases hk with hk | hk
    · obtain ⟨d, hd⟩ := Option.ne_none_iff_exists'.1 hk
      have hm := (aw_some h.b.nd _ d).1 hd
      exact ⟨d, hm, h.b.up h.hi _ hm⟩
    · rw [hk] at hS; cases hS
/-- A new one. -/
theorem BfsP.push {l : List Stp} {S S0 : Int → Bool} {start : Int} {Q : List (Int × Nat)} {i e : Nat} (h : BfsP l S S0 start Q i e) (he : e < (toL l S0 (Q[i]'h.hi).1).length) (hne : (stA l (toL l S0 (Q[i]'h.hi).1)[e]).1 ≠ start) (hk : aw Q (stA l (toL l S0 (Q[i]'h.hi).1)[e]).1 = Option.none) (hS : S (stA l (toL l S0 (Q[i]'h.hi).1)[e]).1 = true) :
    BfsP l S S0 start (Q ++ [((stA l (toL l S0 (Q[i]'h.hi).1)[e]).1, (Q[i]'h.hi).2 + 1)]) i (e + 1) := by
  have hi := h.hi
  obtain ⟨x, hx⟩ : ∃ x, (stA l (toL l S0 (Q[i]'hi).1)[e]).1 = x := ⟨_, rfl⟩
  have hmem := (to_mem l S0 (Q[i]'hi).1 _).1 (List.getElem_mem he)
  have hstp : (stA l (toL l S0 (Q[i]'hi).1)[e]) ∈ lS l S := (lS_mem l S _).2 ⟨stA_mem l _ hmem.1, hS, by rw [hmem.2.1]; exact (h.b.wk _ (List.getElem_mem hi)).1⟩
  have hwalk : Walk (lS l S) ((Q[i]'hi).2 + 1) x start := by
    rw [← hx]
    exact Walk.cons _ _ _ hstp (by rw [hmem.2.1]; exact (h.b.wk _ (List.getElem_mem hi)).2)
  have hup := h.b.up hi
  rw [hx] at hne hk hS ⊢
  have hnot := (aw_none Q x).1 hk
  have hget : ∀ j (hj : j < Q.length), (Q ++ [(x, (Q[i]'hi).2 + 1)])[j]'(by simp; omega) = Q[j] := fun j hj => List.getElem_append_left hj
  refine ⟨⟨?_, ?_, ?_, fun p hp => ?_, fun j hj hji s hs hq => ?_, fun _ p hp => ?_⟩, by simp; omega, fun e' h1 h2 => ?_⟩
  · rw [List.getElem?_append_left (by omega)]; exact h.b.q0
  · rw [List.map_append]
    rw [List.nodup_append]
    refine ⟨h.b.nd, by simp, fun a ha b hb e => ?_⟩
    simp at hb
    subst hb e
    obtain ⟨p, hp, e⟩ := List.mem_map.1 ha
    exact hnot p.2 (by rw [← e]; exact hp)
  · rw [List.pairwise_append]
    refine ⟨h.b.srt, List.pairwise_singleton _ _, fun a ha b hb => ?_⟩
    rw [List.mem_singleton] at hb
    subst hb
    exact hup a ha
  · rcases List.mem_append.1 hp with hp | hp
    · exact h.b.wk p hp
    · rw [List.mem_singleton] at hp; subst hp; exact ⟨hS, hwalk⟩
  · rw [hget j (by omega)] at hq ⊢
    obtain ⟨a, d, b, c⟩ := h.b.cl j (by omega) hji s hs hq
    exact ⟨a, d, List.mem_append.2 (.inl b), c⟩
  · rw [hget i hi]
    rcases List.mem_append.1 hp with hp | hp
    · exact hup p hp
    · rw [List.mem_singleton] at hp; subst hp; exact Nat.le_refl _
  · have e1 := hget i hi
    have key : ∀ (y : Int × Nat) (hy : y = Q[i]'hi) (h1' : e' < (toL l S0 y.1).length), (stA l (toL l S0 y.1)[e']).1 ≠ start ∧ (S (stA l (toL l S0 y.1)[e']).1 = true → ∃ d, ((stA l (toL l S0 y.1)[e']).1, d) ∈ Q ++ [(x, (Q[i]'hi).2 + 1)] ∧ d ≤ y.2 + 1) := by
      intro y hy h1'
      subst hy
      rcases Nat.lt_succ_iff_lt_or_eq.1 h2 with h3 | h3
      · obtain ⟨a, b⟩ := h.pt e' h1' h3
        refine ⟨a, fun hh => ?_⟩
        obtain ⟨d, c1, c2⟩ := b hh
        exact ⟨d, List.mem_append.2 (.inl c1), c2⟩
      · subst h3
        rw [hx]
        exact ⟨hne, fun _ => ⟨_, List.mem_append.2 (.inr (List.mem_singleton.2 rfl)), Nat.le_refl _⟩⟩
    exact key _ e1 h1
/-- All steps to one of them are gone through. -/
theorem BfsP.next {l : List Stp} {S S0 : Int → Bool} {start : Int} {Q : List (Int × Nat)} {i : Nat} (hi : i < Q.length) (h : BfsP l S S0 start Q i (toL l S0 Q[i].1).length) (hs : ∀ y, S y = true → S0 y = true) : Bfs l S start Q (i + 1) := by
  refine ⟨h.b.q0, h.b.nd, h.b.srt, h.b.wk, fun j hj hji s hsm hq => ?_, fun hi2 p hp => ?_⟩
  · rcases Nat.lt_succ_iff_lt_or_eq.1 hji with h1 | h1
    · exact h.b.cl j hj h1 s hsm hq
    · subst h1
      obtain ⟨s1, s2, s3⟩ := (lS_mem l S s).1 hsm
      obtain ⟨q, hq', rfl⟩ := List.getElem_of_mem s1
      have hm : q ∈ toL l S0 (Q[j]'hj).1 := (to_mem l S0 _ q).2 ⟨hq', by rw [stA_at l q hq']; exact hq, by rw [stA_at l q hq']; exact hs _ s2, by rw [← hq]; exact hs _ s3⟩
      obtain ⟨e', he', e⟩ := List.getElem_of_mem hm
      have := h.pt e' he' he'
      rw [e, stA_at l q hq'] at this
      exact ⟨this.1, this.2 s2⟩
  · have h1 := h.b.up hi p hp
    have h2 := h.b.sorted_at i (i + 1) hi hi2 (by omega)
    omega
/-- One of them is reached from the number itself. -/
theorem bfs_found {l : List Stp} {S S0 : Int → Bool} {start : Int} {Q : List (Int × Nat)} {i e : Nat} {most : Nat} (h : BfsP l S S0 start Q i e) (he : e < (toL l S0 (Q[i]'h.hi).1).length) (hq : (stA l (toL l S0 (Q[i]'h.hi).1)[e]).1 = start) (hst : S start = true) (hm : most = 0 ∨ (Q[i]'h.hi).2 + 1 < most) : ShOk l S start most ((Q[i]'h.hi).2 + 1) (aw Q) := by
  have hi := h.hi
  have hmem := (to_mem l S0 (Q[i]'hi).1 _).1 (List.getElem_mem he)
  have hwi := h.b.wk _ (List.getElem_mem hi)
  have hstp : (stA l (toL l S0 (Q[i]'hi).1)[e]) ∈ lS l S := (lS_mem l S _).2 ⟨stA_mem l _ hmem.1, by rw [hq]; exact hst, by rw [hmem.2.1]; exact hwi.1⟩
  have hwalk : Walk (lS l S) ((Q[i]'hi).2 + 1) start start := by
    have := Walk.cons _ _ _ hstp (by rw [hmem.2.1]; exact hwi.2)
    rw [hq] at this
    exact this
  have hno := h.b.none (Q[i]'hi).2 (fun _ => Nat.le_refl _)
  have hkn := h.b.known (Q[i]'hi).2 (fun _ => Nat.le_refl _)
  refine ⟨fun h0 => by omega, fun _ => ⟨hwalk, hm, fun n h1 hw => ?_, fun y d hd => ?_⟩⟩
  · rcases Nat.lt_or_ge n ((Q[i]'hi).2 + 1) with h2 | h2
    · exact absurd hw (hno n h1 (by omega))
    · exact h2
  · rw [aw_some h.b.nd]
    constructor
    · intro hyd
      refine ⟨(h.b.wk _ hyd).2, fun d' hd' hw => ?_⟩
      obtain ⟨d2, c1, c2⟩ := hkn d' y (by omega) hw
      have e1 := (aw_some h.b.nd y d).2 hyd
      have e2 := (aw_some h.b.nd y d2).2 c1
      rw [e1] at e2
      have := Option.some.inj e2
      omega
    · rintro ⟨hw, hmn⟩
      obtain ⟨d2, c1, c2⟩ := hkn d y (by omega) hw
      rcases Nat.lt_or_ge d2 d with h3 | h3
      · exact absurd (h.b.wk _ c1).2 (hmn d2 h3)
      · have : d2 = d := by omega
        rw [← this]; exact c1
/-- Nothing is found: too far, or all is gone through. -/
theorem bfs_most {l : List Stp} {S : Int → Bool} {start : Int} {Q : List (Int × Nat)} {i most : Nat} (h : Bfs l S start Q i) (hi : i < Q.length) (hm : Q[i].2 + 1 = most) : ShOk l S start most 0 (aw Q) := by
  have hno := h.none Q[i].2 (fun _ => Nat.le_refl _)
  refine ⟨fun _ n h1 hn => ?_, fun h0 => by omega⟩
  exact hno n h1 (by omega)
theorem bfs_all {l : List Stp} {S : Int → Bool} {start : Int} {Q : List (Int × Nat)} {i : Nat} (h : Bfs l S start Q i) (hi : Q.length ≤ i) (most : Nat) : ShOk l S start most 0 (aw Q) :=
  ⟨fun _ n h1 hn => h.none n (fun h' => by omega) n h1 (Nat.le_refl _), fun h0 => by omega⟩
end Go.Proofs.Ytpfpkpaodlmlaaa
namespace Go.Proofs.Ytpfpkpaodlmlaaa
set_option maxRecDepth 100000
open Go.RowKit Go.Maps
set_option linter.unusedVariables false
attribute [local go_sem] ba_size
abbrev tMM : TypeId := 56
def awV (Q : List (Int × Nat)) : Int → Option Value := fun x => (aw Q x).map fun (d : Nat) => Value.int .i64 (d : Int)
theorem zeroI (w : World) : (zeroValue 3).run Try.prog w = .ok (.int .i64 0) w := by kernel_rfl
/-- What shortest holds. -/
structure ShS (V0 V : World) (b0 : Nat) (cs : Array Value) (Q : List (Int × Nat)) : Prop where
  bl : Below V0.heap.size V0 V
  s0 : V0.heap.size = b0
  bx : SBox V b0 tW cs
  ab : Boxed V (b0 + 1 + 1) tMM (.map (some (b0 + 1)))
  am : VMap V (b0 + 1) Q.length (awV Q)
  vr : VrS V (b0 + 1 + 1 + 1) (b0 + 1 + 1 + 1) (Q.map (·.1))
section
variable {V0 V V' : World} {b0 : Nat} {cs : Array Value} {Q : List (Int × Nat)}
theorem ShS.bel (h : ShS V0 V b0 cs Q) (hb : Below V.heap.size V V') : ShS V0 V' b0 cs Q :=
  ⟨bel_trans h.bl hb, h.s0, h.bx.below hb, (hb.block _ h.ab.lt).trans h.ab, h.am.bel hb h.am.lt, h.vr.bel hb⟩
theorem awV_push (Q : List (Int × Nat)) (x : Int) (d : Nat) (h : aw Q x = none) : awV (Q ++ [(x, d)]) = updV (awV Q) x (.int .i64 (d : Int)) := by
  funext u
  unfold awV updV
  rw [aw_push Q x d h]
  simp only
  by_cases e : u = x
  · rw [if_pos e, if_pos e]; rfl
  · rw [if_neg e, if_neg e]
end
def reachQ (S : Int → Bool) (Q : List (Int × Nat)) (x : Int) (d : Nat) : List (Int × Nat) := if aw Q x = none ∧ S x = true then Q ++ [(x, d)] else Q
set_option maxHeartbeats 4000000 in
theorem preach11_any (V0 V : World) (vl vn : Value) (m1 m2 m3 nb b0 : Nat) (S : Int → Bool) (c : Cnt) (hcS : ∀ y, (c y).isSome = S y) (Q : List (Int × Nat)) (hS : ShS V0 V b0 (webC vl vn m1 m2 m3) Q) (hM : CMap V m1 nb c) (x : Int) (hx : I64 x) (d : Nat) (hQ : Q.length < 17592186043904) (hsl : ∃ a n c, vl = .slice a n c) (hsn : ∃ a n c, vn = .slice a n c) :
    Calls Try.prog 49 #[.int .i64 x, .int .i64 (d : Int), .pointer (some ⟨b0 + 1 + 1, 0, none⟩), .pointer (some ⟨b0, 0, none⟩), .pointer (some ⟨b0 + 1 + 1 + 1, 0, none⟩)] V fun e V' => e = .returned (.tuple #[]) ∧ ShS V0 V' b0 (webC vl vn m1 m2 m3) (reachQ S Q x d) := by
  obtain ⟨i0, hi, hz0, hz1, hz2⟩ := info_parts int_info
  obtain ⟨la, ln, lc, rfl⟩ := hsl
  obtain ⟨na, nn, nc, rfl⟩ := hsn
  have HS := Lib.hid hS
  have p0 := hS.ab.cell
  have ham := hS.am
  cases hq : aw Q x with
  | some d0 =>
    have hR : reachQ S Q x d = Q := by unfold reachQ; rw [if_neg (by rw [hq]; rintro ⟨h, _⟩; cases h)]
    rw [hR]
    have hv : (awV Q x).getD (.int .i64 0) = .int .i64 (d0 : Int) := by unfold awV; rw [hq]; rfl
    have his : (awV Q x).isSome = true := by unfold awV; rw [hq]; rfl
    clear hS hq hR
    go_enter Try.func49, Try.ntmps49
    go_wp2_with (at_lookup; refine wpl_look_ok _ rfl _ _ tMM rfl 3 Try.underlying56 (zeroI _) (b0 + 1) _ _ rfl ham x hx rfl _ hv true his ?_)
    go_end0
    exact ⟨rfl, HS.out⟩
  | none =>
    have hv : (awV Q x).getD (.int .i64 0) = .int .i64 0 := by unfold awV; rw [hq]; rfl
    have his : (awV Q x).isSome = false := by unfold awV; rw [hq]; rfl
    have x0 := hS.bx.cell 0 _ rfl
    have x1 := hS.bx.cell 1 _ rfl
    have x2 := hS.bx.cell 2 _ rfl
    have x3 := hS.bx.cell 3 _ rfl
    have x4 := hS.bx.cell 4 _ rfl
    have CH := fun (bo : Bool) (hbo : (c x).isSome = bo) => phas11_any (.slice la ln lc) (.slice na nn nc) m1 m2 m3 nb c x V hx hM bo hbo
    cases hSx : S x with
    | false =>
      have hR : reachQ S Q x d = Q := by unfold reachQ; rw [if_neg (by rw [hSx]; rintro ⟨_, h⟩; cases h)]
      rw [hR]
      have CH1 := CH false (by rw [hcS, hSx])
      clear hS hq hR CH hSx
      go_enter Try.func49, Try.ntmps49
      go_wp2_with (at_lookup; refine wpl_look_ok _ rfl _ _ tMM rfl 3 Try.underlying56 (zeroI _) (b0 + 1) _ _ rfl ham x hx rfl _ hv false his ?_)
      refine CH1.mono ?_
      rintro e w1 ⟨rfl, b1⟩
      have HS1 := Lib.hid (HS.out.bel b1)
      go_wp2_with fail
      go_end0
      exact ⟨rfl, HS1.out⟩
    | true =>
      have hR : reachQ S Q x d = Q ++ [(x, d)] := by unfold reachQ; rw [if_pos ⟨hq, hSx⟩]
      rw [hR]
      have HAw := Lib.hid (awV_push Q x d hq)
      have CH1 := CH true (by rw [hcS, hSx])
      clear hS hq hR CH hSx
      go_enter Try.func49, Try.ntmps49
      go_wp2_with (at_lookup; refine wpl_look_ok _ rfl _ _ tMM rfl 3 Try.underlying56 (zeroI _) (b0 + 1) _ _ rfl ham x hx rfl _ hv false his ?_)
      refine CH1.mono ?_
      rintro e w1 ⟨rfl, b1⟩
      have hS1 := HS.out.bel b1
      have HS1 := Lib.hid hS1
      have q0 := hS1.ab.cell
      have ham1 := hS1.am
      clear hS1
      have hlQ : (Q.map (·.1)).length = Q.length := List.length_map ..
      obtain ⟨nq, hnq⟩ : ∃ nq, Q.length = nq := ⟨_, rfl⟩
      have Hnq := Lib.hid hnq
      have HlQ := Lib.hid hlQ
      rw [hnq] at ham1 hQ
      clear hlQ hnq
      go_wp2_with (first
        | (at_mapUpdate; refine wpl_store _ rfl _ _ _ tMM rfl 3 Try.underlying56 (b0 + 1) _ _ rfl ham1 (by omega) x hx rfl (.int .i64 (d : Int)) rfl ?_; intro w2 hm2 hg2
           have hvr2 : VrS w2 (b0 + 1 + 1 + 1) (b0 + 1 + 1 + 1) (Q.map (·.1)) := HS1.out.vr.turn hg2 (by omega)
           obtain ⟨hB, vv, hbx, hrow⟩ := hvr2
           obtain ⟨ad, cc, hsh⟩ := own_shape11 hrow
           rw [HlQ.out, Hnq.out] at hsh hrow
           subst hsh
           have r0 := hbx.cell
           have hbl2 := hbx.lt)
        | (at_builtin; refine wpList_append_own_at _ rfl _ _ 22 rfl (b0 + 1 + 1 + 1) 3 i0 (.int .i64 0) 1 8 Try.underlying22 hi hz0 hz1 hz2 rfl (by decide) (.slice ad nq cc) _ _ rfl (hrow.alloc _) ⟨w2.heap.size, 0, none⟩ 1 1 [.int .i64 x] rfl rfl ?a1 ?a2 ?a3 ?a4 ?a5 ?_))
      case a1 => intro j u hj; match j, hj with
        | 0, hj => simp at hj; subst hj; simp [Addr.add]
      case a2 => intro u hu; simp at hu; subst hu; rfl
      case a3 => unfold maxLen; omega
      case a4 => omega
      case a5 => simp; omega
      intro r3 w3 hown3 hg3 _ hat3
      obtain ⟨ad3, c3, rfl⟩ := own_shape11 hown3
      have hneb := block_not_row hbx (by decide) hrow
      have hbA := hbx.alloc (.cells #[.int .i64 x] 3)
      have hb3 : Boxed w3 (b0 + 1 + 1 + 1) tI (.slice ad nq cc) := (hg3.block _ hbA.lt hneb).trans hbA
      have p3 := hb3.cell
      have f3 := hb3.frozen
      have HB3 := Lib.hid hb3
      have Hrow := Lib.hid hrow
      have Hneb := Lib.hid hneb
      have Hhat := Lib.hid hat3
      have Hown := Lib.hid hown3
      have Hg3 := Lib.hid hg3
      have Hg2 := Lib.hid hg2
      have Hm2 := Lib.hid hm2
      clear hbA hb3 hbx hrow hneb hat3 hown3 hg3 hg2 hm2
      go_wp2_with fail
      go_end0
      refine ⟨rfl, ?_⟩
      have hs0 := HS1.out.s0
      have hbl1 := HS1.out.bl.size
      have hs2 := Hg2.out.size
      have off : ∀ m, m < b0 + 1 + 1 + 1 → some m ≠ (Value.slice ad nq cc).ownBlock := fun m hm e => by have := (Hrow.out.lt m e.symm).1; omega
      have blk : ∀ m, m < b0 + 1 + 1 + 1 → m < w2.heap.size → (w3.setCell ⟨b0 + 1 + 1 + 1, 0, none⟩ (.slice ad3 (nq + 1) c3)).heap[m]? = w2.heap[m]? := fun m hm hm2 => by
        rw [Below.heap_setCell _ _ _ m (show m ≠ b0 + 1 + 1 + 1 by omega), Hg3.out.block m (by simp; omega) (off m hm)]
        exact ((Below.refl w2.heap.size w2).alloc (Nat.le_refl _) (.cells #[.int .i64 x] 3)).block m hm2
      have blk2 : ∀ m, m < w1.heap.size → m ≠ b0 + 1 → w2.heap[m]? = w1.heap[m]? := fun m hm hne => Hg2.out.block m hm (fun e => hne (Option.some.inj e))
      have hbxl := HS1.out.bx.lt
      have habl := HS1.out.ab.lt
      have hvl := HS1.out.vr.lt
      have hsz3 := Hg3.out.size
      have hne3 : (Value.slice ad3 (nq + 1) c3).ownBlock ≠ some (b0 + 1 + 1 + 1) := fun e => by
        rcases Hhat.out with e1 | e1
        · exact Hneb.out (by rw [← e1, e])
        · rw [e] at e1; have e3 := Option.some.inj e1; (try simp at e3); omega
      refine ⟨?_, hs0, (blk b0 (by omega) (by omega)).trans ((blk2 b0 hbxl (by omega)).trans HS1.out.bx), (blk _ (by omega) (by omega)).trans ((blk2 _ habl (by omega)).trans HS1.out.ab), ?_, Nat.le_refl _, _, HB3.out.set _, ?_⟩
      · have h2 : Below V0.heap.size V0 w2 := HS1.out.bl.grown Hg2.out (by omega) (fun j hj => by have := Option.some.inj hj; omega)
        have h3 : Below V0.heap.size V0 w3 := (h2.alloc h2.size (.cells #[.int .i64 x] 3)).grown Hg3.out (by simp; omega) (fun j hj => by have := (Hrow.out.lt j hj).1; omega)
        exact h3.setCell (p := ⟨b0 + 1 + 1 + 1, 0, none⟩) (by show V0.heap.size ≤ b0 + 1 + 1 + 1; omega) _
      · rw [HAw.out, List.length_append, Hnq.out]
        exact VMap.same Hm2.out (blk _ (by omega) (by have := VMap.lt Hm2.out; omega))
      · rw [List.map_append, List.length_append, HlQ.out, Hnq.out, iV_app]
        exact owns_keep7 Hown.out _ (fun e => hne3 e.symm)
end Go.Proofs.Ytpfpkpaodlmlaaa
namespace Go.Proofs.Ytpfpkpaodlmlaaa
set_option maxRecDepth 100000
open Go.RowKit Go.Maps
set_option linter.unusedVariables false
attribute [local go_sem] ba_size
def ShRes (V : World) (l : List Stp) (N : List Int) (S : Int → Bool) (start : Int) (most : Nat) (e : Ending) (V' : World) : Prop :=
  ∃ (ma many : Nat) (Q : List (Int × Nat)), e = .returned (.tuple #[.map (some ma), .int .i64 (many : Int)]) ∧ Below V.heap.size V V' ∧ VMap V' ma Q.length (awV Q) ∧ V.heap.size ≤ ma ∧ ShOk l S start most many (aw Q) ∧ many ≤ N.length
theorem bfs_len {l : List Stp} {S : Int → Bool} {start : Int} {Q : List (Int × Nat)} {i : Nat} (h : Bfs l S start Q i) (N : List Int) (hSN : ∀ x, S x = true → x ∈ N) : Q.length ≤ N.length := by
  have := List.Nodup.length_le_of_subset h.nd (l₂ := N) fun x hx => by
    obtain ⟨p, hp, rfl⟩ := List.mem_map.1 hx
    exact hSN _ (h.wk p hp).1
  simpa using this
def dB (Q : List (Int × Nat)) : Prop := ∀ j (hj : j < Q.length), Q[j].2 ≤ j
theorem dB_push {Q : List (Int × Nat)} (h : dB Q) (i : Nat) (hi : i < Q.length) (x : Int) : dB (Q ++ [(x, Q[i].2 + 1)]) := by
  intro j hj
  rcases Nat.lt_or_ge j Q.length with h1 | h1
  · rw [List.getElem_append_left h1]; exact h j h1
  · have : j = Q.length := by simp at hj; omega
    subst this
    simp
    have := h i hi
    omega
set_option maxHeartbeats 8000000 in
theorem pshort11_any (Wc V : World) (l : List Stp) (N : List Int) (vl vn : Value) (m1 m2 m3 : Nat) (hw : Web Wc l N vl vn m1 m2 m3) (S : Int → Bool) (hSN : ∀ y, S y = true → y ∈ N) (hM : CMap V m1 17592186044416 (cntF l S)) (hg : Wc.grownBy V (some m1)) (start : Int) (hst : S start = true) (most : Nat) (hmost : most ≤ 17592186044416) (hNf : N.length ≤ 7036874417560) :
    Calls Try.prog 35 #[webV vl vn m1 m2 m3, .int .i64 start, .int .i64 (most : Int)] V fun e V' => ShRes V l N S start most e V' := by
  have hmm := @run_makeMap Try.prog
  have HW := Lib.hid hw
  obtain ⟨al, cl, hvl, _⟩ := sts_at hw.sts
  obtain ⟨an, cn, hvn, _⟩ := hw.nums.some_at
  have hIs : I64 start := hw.okN start (hSN start hst)
  have HM := Lib.hid hM
  have Hg := Lib.hid hg
  have HSN := Lib.hid hSN
  obtain ⟨b0, hb0⟩ : ∃ b0, V.heap.size = b0 := ⟨_, rfl⟩
  have hcS : ∀ y, (cntF l S y).isSome = S y := fun y => by unfold cntF; cases S y <;> rfl
  obtain ⟨V4, hV4⟩ : ∃ V4, (((V.alloc (.cells (webC vl vn m1 m2 m3) tW)).alloc (.map #[] 0)).alloc (.cells #[.map (some (b0 + 1))] tMM)).alloc (.cells #[.slice none 0 0] tI) = V4 := ⟨_, rfl⟩
  have hS4 : ShS V V4 b0 (webC vl vn m1 m2 m3) [] := by
    rw [← hV4]
    refine ⟨?_, hb0, ?_, ?_, ?_, Nat.le_refl _, .slice none 0 0, ?_, World.ownsRow_nil _ _ _ _⟩
    · exact ((((Below.refl V.heap.size V).alloc (Nat.le_refl _) _).alloc (by simp) _).alloc (by simp; omega) _).alloc (by simp; omega) _
    · rw [← hb0]; exact (((SBox.new V tW _).alloc _).alloc _).alloc _
    · have := (Boxed.new ((V.alloc (.cells (webC vl vn m1 m2 m3) tW)).alloc (.map #[] 0)) tMM (.map (some (b0 + 1)))).alloc (.cells #[.slice none 0 0] tI)
      simpa [hb0] using this
    · have h1 := VMap.made (V.alloc (.cells (webC vl vn m1 m2 m3) tW))
      have h2 := (h1.kept (World.grownBy_alloc _ (.cells #[.map (some (b0 + 1))] tMM) none) (by simp)).kept (World.grownBy_alloc _ (.cells #[.slice none 0 0] tI) none) (by simp)
      have e : awV [] = fun _ => none := by funext x; rfl
      rw [e]
      simpa [hb0] using h2
    · have := Boxed.new (((V.alloc (.cells (webC vl vn m1 m2 m3) tW)).alloc (.map #[] 0)).alloc (.cells #[.map (some (b0 + 1))] tMM)) tI (.slice none 0 0)
      simpa [hb0] using this
  have hM4 := hM.bel hS4.bl hM.lt
  have CR := preach11_any V V4 vl vn m1 m2 m3 17592186044416 b0 S (cntF l S) hcS [] hS4 hM4 start hIs 0 (by simp) ⟨al, _, cl, hvl⟩ ⟨an, _, cn, hvn⟩
  have hR0 : reachQ S [] start 0 = [(start, 0)] := by unfold reachQ; rw [if_pos ⟨rfl, hst⟩]; rfl
  rw [hR0] at CR
  have HCr := Lib.hid (fun (W : World) (Q : List (Int × Nat)) (hS : ShS V W b0 (webC vl vn m1 m2 m3) Q) (x : Int) (hx : I64 x) (d : Nat) (hQ : Q.length < 17592186043904) => preach11_any V W vl vn m1 m2 m3 17592186044416 b0 S (cntF l S) hcS Q hS (hM.bel hS.bl hM.lt) x hx d hQ ⟨al, _, cl, hvl⟩ ⟨an, _, cn, hvn⟩)
  have Hst := Lib.hid hst
  obtain ⟨nl, hnl⟩ : ∃ nl, l.length = nl := ⟨_, rfl⟩
  obtain ⟨nN, hnN⟩ : ∃ nN, N.length = nN := ⟨_, rfl⟩
  have HNl := Lib.hid hnl
  have HNN := Lib.hid hnN
  subst hvl hvn
  rw [hnl, hnN] at CR HCr HW hV4
  rw [hnl, hnN]
  rw [hnN] at hNf
  clear hS4 hM4 hR0 hcS hw hM hg hSN hst hnl hnN
  go_enter Try.func35, Try.ntmps35
  go_wp2_with fail
  go_step3
  go_wp2_with fail
  refine CR.mono ?_
  rintro e W5 ⟨rfl, hS5⟩
  have HS5 := Lib.hid hS5
  clear hS5 CR
  go_wp2_with fail
  go_step3
  go_wp2_with fail
  --LOOPS
  have HT1 : Hid (∃ ft, (∀ W, Below V.heap.size V W → VMap W m3 17592186044416 ft) ∧ ∀ x W, Below V.heap.size V W → IsInts W ((ft x).getD nilS) ((toL l (inN N) x).map Int.ofNat)) := by
    obtain ⟨ft, h1, h2⟩ := GMap.turned HW.out.isM Hg.out HW.out.ne3 HW.out.to
    exact ⟨ft, fun W hW => h1.bel hW h1.lt, fun x W hW => (h2 x).below hW⟩
  have HSt : Hid (∀ W, Below V.heap.size V W → IsSts W (.slice al nl cl) l) := fun W hW => (HW.out.sts.turned HW.out.isM Hg.out).below hW
  have Hok : Hid (∀ i, i < l.length → I64 (stA l i).1) := fun i hi => (HW.out.okl _ (stA_mem l i hi)).1
  have HsS : Hid (∀ y, S y = true → inN N y = true) := fun y hy => by unfold inN; simpa using HSN.out y hy
  go_loopg [11, 12] nN (fun g mv iv wr => ∃ (i : Nat) (Q : List (Int × Nat)), mv = .int .i64 0 ∧ iv = .int .i64 (i : Int) ∧ Hid (ShS V wr b0 (webC (.slice al nl cl) (.slice an nN cn) m1 m2 m3) Q) ∧ Hid (Bfs l S start Q i) ∧ Hid (dB Q) ∧ Hid (∀ hi : i < Q.length, most = 0 ∨ Q[i].2 + 1 ≤ most) ∧ i ≤ nN ∧ nN - i ≤ g)
  case atStart => exact ⟨0, [(start, 0)], rfl, rfl, HS5, bfs_start l S start Hst.out, (fun j hj => by simp at hj; subst hj; exact Nat.le_refl _), (fun hi => by simp; omega), Nat.zero_le _, by omega⟩
  case round =>
    obtain ⟨i, Q, rfl, rfl, HS, HB, HD, HMo, hiN, hgg⟩ := hrel
    have hS := HS.out
    have hQN : Q.length ≤ N.length := bfs_len HB.out N HSN.out
    obtain ⟨hB9, vv, hbx, hrow⟩ := hS.vr
    obtain ⟨ad, cc, rfl⟩ := own_shape11 hrow
    have hlQ : (Q.map (·.1)).length = Q.length := List.length_map ..
    obtain ⟨lq, hlq⟩ : ∃ lq, Q.length = lq := ⟨_, rfl⟩
    have Hlq := Lib.hid hlq
    rw [hlQ, hlq] at hbx hrow
    rw [hlq, HNN.out] at hQN
    have p0 := hbx.cell
    have a0 := hS.ab.cell
    by_cases hlt : i < lq
    · have j0 : (i : Int) < (lq : Int) := by omega
      have hiQ : i < Q.length := by have := Hlq.out; omega
      obtain ⟨g9, ea, cellx⟩ := own_at11 hrow i hlt
      subst ea
      have ex : (Q.map (·.1)).getD i 0 = Q[i].1 := by simp [hiQ]
      rw [ex] at cellx
      have hxS : S Q[i].1 = true := (HB.out.wk _ (List.getElem_mem hiQ)).1
      have hIx : I64 Q[i].1 := HW.out.okN _ (HSN.out _ hxS)
      have haw : aw Q Q[i].1 = some Q[i].2 := (aw_some HB.out.nd _ _).2 (List.getElem_mem hiQ)
      have hdi := HD.out i hiQ
      have hmi := HMo.out hiQ
      have Hsame : Hid (∀ W : World, W.heap = wr.heap → W.cell? = wr.cell?) := fun W hW => by funext p; simp [World.cell?, hW]
      obtain ⟨ft, hT1, hT2⟩ := HT1.out
      have HT1' := Lib.hid hT1
      have hiT := hT2 Q[i].1 V (Below.refl _ _)
      have HT2' := Lib.hid (hT2 Q[i].1)
      obtain ⟨aT, cT, hvT, t1, t2, t3, _⟩ := ints_at hiT
      have hvT' : (ft Q[i].1).getD (.slice none 0 0) = .slice aT (toL l (inN N) Q[i].1).length cT := hvT
      rw [hvT] at HT2'
      have HPt := Lib.hid (bfsP_start (S0 := inN N) HB.out hiQ)
      obtain ⟨x, d, hxd⟩ : ∃ x d, Q[i] = (x, d) := ⟨Q[i].1, Q[i].2, rfl⟩
      have Hxd := Lib.hid hxd
      rw [hxd] at cellx hxS hIx haw hdi hmi hvT' HT2' t1 t3
      simp only at cellx hxS hIx haw hdi hmi hvT' HT2' t1 t3
      have hvd : (awV Q x).getD (.int .i64 0) = .int .i64 (d : Int) := by unfold awV; rw [haw]; rfl
      have q1 : ∀ n, (Instr.lookup tMM (.map (some (b0 + 1))) (.int .i64 x) false).run Try.prog (wr.drewN n) = .ok (.int .i64 (d : Int)) (wr.drewN n) := fun n => vlook_run (VMap.same hS.am (by rfl)) Try.underlying56 (zeroI _) x hIx _ hvd
      obtain ⟨nT, hnT⟩ : ∃ nT, (toL l (inN N) x).length = nT := ⟨_, rfl⟩
      have HnT := Lib.hid hnT
      have hTl : nT ≤ nl := by rw [← hnT, ← HNl.out]; exact toK_len l (inN N) l.length x
      rw [hnT] at hvT' HT2' t1 t3
      have hfl := HW.out.few
      rw [HNl.out] at hfl
      have zd : IntKind.i64.wrap ((d : Int) + 1) = (d : Int) + 1 := by rw [IntKind.wrap_i64]; omega
      clear hS hbx hrow hxd haw ex hlQ hlq hiT hvT hT1 hT2 hnT
      go_wp2_with fail
      go_quiet (fail)
      generalize hwq : wr.drewN _ = wq
      have hSq : ShS V wq b0 (webC (.slice al nl cl) (.slice an nN cn) m1 m2 m3) Q := by rw [← hwq]; exact HS.out.bel (below_drewN (Below.refl _ _) _)
      have HSq := Lib.hid hSq
      have hVq : VMap wq m3 17592186044416 ft := HT1'.out wq hSq.bl
      have q2 : ∀ n, (Instr.lookup tMI (.map (some m3)) (.int .i64 x) false).run Try.prog (wq.drewN n) = .ok (.slice aT nT cT) (wq.drewN n) := fun n => vlook_run (VMap.same hVq (by rfl)) Try.underlying42 (zeroS _) x hIx _ hvT'
      obtain ⟨hB8, vv8, hbx8, hrow8⟩ := hSq.vr
      have a8 := hSq.ab.cell
      have ebx : wq.heap = wr.heap := by rw [← hwq]; rfl
      have p8 : wq.cell? ⟨b0 + 1 + 1 + 1, 0, none⟩ = some (.slice (some ⟨g9, 0, none⟩) lq cc) := by rw [Hsame.out wq ebx]; exact p0
      have c8 : wq.cell? ⟨g9, i, none⟩ = some (.int .i64 x) := by rw [Hsame.out wq ebx]; exact cellx
      have u4 := hSq.bx.cell 4 _ rfl
      clear hSq hbx8 hrow8 hVq ebx hwq q1 p0 a0 cellx
      by_cases hmo : d + 1 = most
      · have em : ((d : Int) + 1 == (most : Int)) = true := by simp; omega
        have HR : Hid (ShOk l S start most 0 (aw Q)) := bfs_most HB.out hiQ (by have := Hxd.out; rw [this]; exact hmo)
        go_wp2_with fail
        (try rw [Exit.noGoto_ret])
        go_ret2
        exact ⟨b0 + 1, 0, Q, rfl, HSq.out.bl, HSq.out.am, by omega, HR.out, Nat.zero_le _⟩
      · have em : ((d : Int) + 1 == (most : Int)) = false := by simp; omega
        have Hmo := Lib.hid hmo
        clear hmo
        go_wp2_with fail
        go_quiet (fail)
        generalize hwz : wq.drewN _ = wz
        have HSz : Hid (ShS V wz b0 (webC (.slice al nl cl) (.slice an nN cn) m1 m2 m3) Q) := by rw [← hwz]; exact HSq.out.bel (below_drewN (Below.refl _ _) _)
        clear hwz q2 a8 p8 c8 u4 HSq HS
        go_wp2_with fail
        go_loopg [11, 45] nT (fun h mv ev wr => ∃ (e : Nat) (Q2 : List (Int × Nat)), mv = .int .i64 0 ∧ ev = .int .i64 (e : Int) ∧ e ≤ nT ∧ nT - e ≤ h ∧ Hid (ShS V wr b0 (webC (.slice al nl cl) (.slice an nN cn) m1 m2 m3) Q2) ∧ Hid (∃ hi : i < Q2.length, Q2[i] = (x, d) ∧ BfsP l S (inN N) start Q2 i e) ∧ Hid (dB Q2))
        case atStart => exact ⟨0, Q, rfl, rfl, Nat.zero_le _, by omega, HSz, ⟨hiQ, Hxd.out, HPt.out⟩, HD⟩
        case round =>
          obtain ⟨e, Q2, rfl, rfl, heT, hgh, HS2, HP2, HD2⟩ := hrel
          have hS2 := HS2.out
          obtain ⟨hi2, hQi, hBP⟩ := HP2.out
          by_cases hle : e < nT
          · have j1 : (e : Int) < (nT : Int) := by omega
            have heT2 : e < (toL l (inN N) x).length := by have := HnT.out; omega
            obtain ⟨aT', cT', eT, _, _, _, HFc⟩ := ints_at (HT2'.out wr hS2.bl)
            obtain ⟨bT, oT, ea, cellT⟩ := HFc.out e heT2
            have hpl : (toL l (inN N) x)[e] < l.length := toK_lt l (inN N) l.length x _ (List.getElem_mem heT2)
            obtain ⟨al', cl', el, _, _, _, HLc⟩ := sts_at (HSt.out wr hS2.bl)
            obtain ⟨bL, oL, eb, cell0, _⟩ := HLc.out _ hpl
            obtain ⟨rfl, rfl⟩ : aT = aT' ∧ cT = cT' := by
              have hh := HnT.out
              simpa [hh] using eT
            obtain ⟨rfl, rfl⟩ : al = al' ∧ cl = cl' := by
              have hh := HNl.out
              simpa [hh] using el
            subst ea eb
            have hIy := Hok.out _ hpl
            have hsk := fun (hne : (stA l (toL l (inN N) x)[e]).1 ≠ start) (hk : aw Q2 (stA l (toL l (inN N) x)[e]).1 ≠ none ∨ S (stA l (toL l (inN N) x)[e]).1 = false) => (show BfsP l S (inN N) start Q2 i (e + 1) from by
              have hx1 : Q2[i].1 = x := by rw [hQi]
              refine hBP.skip (by rw [hx1]; exact heT2) ?_ ?_
              · simp only [hx1]; exact hne
              · simp only [hx1]; exact hk)
            have hpu := fun (hne : (stA l (toL l (inN N) x)[e]).1 ≠ start) (hk : aw Q2 (stA l (toL l (inN N) x)[e]).1 = none) (hSy : S (stA l (toL l (inN N) x)[e]).1 = true) => (show BfsP l S (inN N) start (Q2 ++ [((stA l (toL l (inN N) x)[e]).1, d + 1)]) i (e + 1) from by
              have hx1 : Q2[i].1 = x := by rw [hQi]
              have hx2 : Q2[i].2 = d := by rw [hQi]
              have := hBP.push (by rw [hx1]; exact heT2) (by simp only [hx1]; exact hne) (by simp only [hx1]; exact hk) (by simp only [hx1]; exact hSy)
              simp only [hx1, hx2] at this
              exact this)
            have hfo := fun (he : (stA l (toL l (inN N) x)[e]).1 = start) (hm : most = 0 ∨ d + 1 < most) => (show ShOk l S start most (d + 1) (aw Q2) from by
              have hx1 : Q2[i].1 = x := by rw [hQi]
              have hx2 : Q2[i].2 = d := by rw [hQi]
              have := bfs_found hBP (by rw [hx1]; exact heT2) (by simp only [hx1]; exact he) Hst.out (by rw [hx2]; exact hm)
              rw [hx2] at this
              exact this)
            have Hsk := Lib.hid hsk
            have Hpu := Lib.hid hpu
            have Hfo := Lib.hid hfo
            have hQ2N : Q2.length ≤ N.length := bfs_len hBP.b N HSN.out
            have HdP : Hid (∀ y, dB (Q2 ++ [(y, d + 1)])) := fun y => by
              have := dB_push HD2.out i hi2 y
              rw [hQi] at this
              exact this
            obtain ⟨y, hy⟩ : ∃ y, (stA l (toL l (inN N) x)[e]).1 = y := ⟨_, rfl⟩
            rw [hy] at cell0 hIy Hsk Hpu Hfo
            obtain ⟨pl, hpl2⟩ : ∃ pl, (toL l (inN N) x)[e] = pl := ⟨_, rfl⟩
            rw [hpl2] at cellT cell0 hpl
            have jp : (pl : Int) < (nl : Int) := by have := HNl.out; omega
            have CRy := HCr.out wr Q2 hS2 y hIy (d + 1) (by have := HNN.out; omega)
            have ed : ((d + 1 : Nat) : Int) = (d : Int) + 1 := by omega
            rw [ed] at CRy
            have u0 := hS2.bx.cell 0 _ rfl
            have Hi2 := Lib.hid hi2
            have HQi := Lib.hid hQi
            clear hS2 hsk hpu hfo hy hpl2 hBP hQi eT el ed
            by_cases hys : y = start
            · subst hys
              have HR : Hid (ShOk l S y most (d + 1) (aw Q2)) := Hfo.out rfl (by have := Hmo.out; omega)
              have hmanyN : d + 1 ≤ N.length := by have := HNN.out; omega
              have Hmany := Lib.hid hmanyN
              have a9 := HS2.out.ab.cell
              clear hmanyN
              go_wp2_with fail
              (try rw [Exit.noGoto_ret])
              go_ret2
              exact ⟨b0 + 1, d + 1, Q2, by first | rfl | (simp; done) | (congr 3), HS2.out.bl, HS2.out.am, by omega, HR.out, Hmany.out⟩
            · have ey : (y == start) = false := by simp [hys]
              go_wp2_with fail
              refine CRy.mono ?_
              rintro ee w6 ⟨rfl, hS6⟩
              have HS6 := Lib.hid hS6
              clear hS6
              by_cases hrq : aw Q2 y = none ∧ S y = true
              · have hR : reachQ S Q2 y (d + 1) = Q2 ++ [(y, d + 1)] := by unfold reachQ; rw [if_pos hrq]
                rw [hR] at HS6
                have HP6 : Hid (∃ hi : i < (Q2 ++ [(y, d + 1)]).length, (Q2 ++ [(y, d + 1)])[i] = (x, d) ∧ BfsP l S (inN N) start (Q2 ++ [(y, d + 1)]) i (e + 1)) := by
                  have h2 := Hi2.out
                  refine ⟨by simp; omega, ?_, Hpu.out hys hrq.1 hrq.2⟩
                  rw [List.getElem_append_left h2]
                  exact HQi.out
                clear hrq hR
                go_wp2_with fail
                go_roundg (nT - (e + 1))
                case measure => omega
                case rel => exact ⟨e + 1, _, rfl, by first | go_num | simp, by omega, Nat.le_refl _, HS6, HP6, HdP.out y⟩
              · have hR : reachQ S Q2 y (d + 1) = Q2 := by unfold reachQ; rw [if_neg hrq]
                rw [hR] at HS6
                have HP6 : Hid (∃ hi : i < Q2.length, Q2[i] = (x, d) ∧ BfsP l S (inN N) start Q2 i (e + 1)) := ⟨Hi2.out, HQi.out, Hsk.out hys (by
                  cases ha : aw Q2 y with
                  | some _ => exact .inl (by simp)
                  | none =>
                    refine .inr ?_
                    cases hs : S y with
                    | false => rfl
                    | true => exact absurd ⟨ha, hs⟩ hrq)⟩
                clear hrq hR
                go_wp2_with fail
                go_roundg (nT - (e + 1))
                case measure => omega
                case rel => exact ⟨e + 1, _, rfl, by first | go_num | simp, by omega, Nat.le_refl _, HS6, HP6, HD2⟩
          · obtain rfl : nT = e := by omega
            have jq : ¬ (nT : Int) < (nT : Int) := by omega
            have HBn : Hid (Bfs l S start Q2 (i + 1)) := BfsP.next hi2 (by rw [hQi]; show BfsP l S (inN N) start Q2 i (toL l (inN N) x).length; rw [HnT.out]; exact hBP) HsS.out
            have HMn : Hid (∀ hi : i + 1 < Q2.length, most = 0 ∨ Q2[i + 1].2 + 1 ≤ most) := fun hi => by
              have h1 := hBP.b.up hi2 _ (List.getElem_mem hi)
              rw [hQi] at h1
              simp only at h1
              have := Hmo.out
              omega
            clear hS2 hBP hQi
            go_wp2_with fail
            go_roundg (nN - (i + 1))
            case measure => omega
            case rel => exact ⟨i + 1, Q2, rfl, by first | go_num | simp, HS2, HBn, HD2, HMn, by omega, Nat.le_refl _⟩
    · have jn : ¬ (i : Int) < (lq : Int) := by omega
      have HR : Hid (ShOk l S start most 0 (aw Q)) := bfs_all HB.out (by have := Hlq.out; omega) most
      clear hS hbx hrow
      go_wp2_with fail
      (try rw [Exit.noGoto_ret])
      go_ret2
      exact ⟨b0 + 1, 0, Q, rfl, HS.out.bl, HS.out.am, by omega, HR.out, Nat.zero_le _⟩
end Go.Proofs.Ytpfpkpaodlmlaaa
