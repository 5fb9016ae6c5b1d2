/-
  All inputs of a row of texts, in the order in which they are summed: of no program.
  Inputs of a climb: how many, how long: of no program.
  The first two inputs that are unlike, backwards; that of all inputs of two rows it is what their crowns give: of no program.
  What two rows of bodies give away, in lists, over whatever sum: of no program.
  What Climb, Clash and Differ leave, as values: of no program.
-/
import Derived.Test.YtgickejfcmnaiaaDoorGA
import Derived.Test.YtgickejfcmnaiaaDoorZP2Fold
import Derived.Test.YtgickejfcmnaiaaDoorGB
namespace Go.Proofs.YtgickejfcmnaiaaDoor
set_option maxRecDepth 100000
set_option linter.unusedVariables false
/-- Right halves first, then left ones, then the crown's own input. -/
def insL (sm : List UInt8 → List UInt8) (l : List (List UInt8)) : List (List UInt8) :=
  if l.length = 0 then [] else if h : l.length ≤ 1 then [topL sm l] else insL sm (l.drop (hf l.length)) ++ insL sm (l.take (hf l.length)) ++ [topL sm l]
  termination_by l.length
  decreasing_by
    · have := hf_pos l.length; simp; omega
    · have := hf_lt l.length (by omega); simp; omega
theorem insL_nil (sm : List UInt8 → List UInt8) (l : List (List UInt8)) (h : l.length = 0) : insL sm l = [] := by rw [insL, if_pos h]
theorem insL_one (sm : List UInt8 → List UInt8) (s : List UInt8) : insL sm [s] = [leafI s] := by rw [insL, if_neg (by simp), dif_pos (by simp), topL_one]
theorem insL_more (sm : List UInt8 → List UInt8) (l : List (List UInt8)) (h : 2 ≤ l.length) : insL sm l = insL sm (l.drop (hf l.length)) ++ insL sm (l.take (hf l.length)) ++ [topL sm l] := by
  rw [insL, if_neg (by omega), dif_neg (by omega)]
theorem topL_crown (sm : List UInt8 → List UInt8) (l : List (List UInt8)) (h : 2 ≤ l.length) : topL sm l = nodeI (crownL sm (l.take (hf l.length))) (crownL sm (l.drop (hf l.length))) := by
  have hlt := hf_lt l.length h
  have hps := hf_pos l.length
  rw [topL_more sm l h]
  unfold crownL
  rw [if_neg (by rw [List.length_take]; omega), if_neg (by rw [List.length_drop]; omega)]
theorem sumL_len32 (S : List UInt8) : (sumL S).length = 32 := fl_len _ _
theorem crownL_le32 (sm : List UInt8 → List UInt8) (h32 : ∀ s, (sm s).length = 32) (l : List (List UInt8)) : (crownL sm l).length ≤ 32 := by
  unfold crownL
  by_cases h : l.length = 0
  · rw [if_pos h]; simp
  · rw [if_neg h, h32]; omega
/-- 2 n - 1 of n. -/
theorem insL_odd (sm : List UInt8 → List UInt8) : ∀ (m : Nat) (l : List (List UInt8)), l.length = m → 1 ≤ m → (insL sm l).length + 1 = 2 * m := by
  intro m
  induction m using Nat.strongRecOn with
  | _ m ih =>
    intro l hm h0
    by_cases h1 : l.length ≤ 1
    · match l, h1, hm with
      | [s], _, hm => rw [insL_one]; simp at hm ⊢; omega
      | [], _, hm => simp at hm; omega
      | _ :: _ :: _, h1, _ => simp at h1
    · have hlt := hf_lt l.length (by omega)
      have hps := hf_pos l.length
      have i1 := ih (l.length - hf l.length) (by omega) (l.drop (hf l.length)) List.length_drop (by omega)
      have i2 := ih (hf l.length) (by omega) (l.take (hf l.length)) (by rw [List.length_take]; omega) hps
      rw [insL_more sm l (by omega), List.length_append, List.length_append, List.length_singleton]
      omega
theorem insL_len (sm : List UInt8 → List UInt8) (m : Nat) (l : List (List UInt8)) (hm : l.length = m) : (insL sm l).length ≤ 2 * m := by
  by_cases h0 : l.length = 0
  · rw [insL_nil sm l h0]; simp
  · have := insL_odd sm m l hm (by omega); omega
theorem insL_bound (sm : List UInt8 → List UInt8) (h32 : ∀ s, (sm s).length = 32) (B : Nat) (hB : 64 ≤ B) : ∀ (m : Nat) (l : List (List UInt8)), l.length = m → (∀ s ∈ l, s.length ≤ B) → ∀ t ∈ insL sm l, t.length ≤ B + 1 := by
  intro m
  induction m using Nat.strongRecOn with
  | _ m ih =>
    intro l hm hl t ht
    by_cases h0 : l.length = 0
    · rw [insL_nil sm l h0] at ht; cases ht
    · by_cases h1 : l.length ≤ 1
      · match l, h1, h0, hl, ht with
        | [s], _, _, hl, ht =>
          rw [insL_one, List.mem_singleton] at ht
          have := hl s (by simp)
          rw [ht]; unfold leafI; simp; omega
        | [], _, h0, _, _ => exact absurd rfl h0
        | _ :: _ :: _, h1, _, _, _ => simp at h1
      · have hlt := hf_lt l.length (by omega)
        have hps := hf_pos l.length
        rw [insL_more sm l (by omega), List.mem_append, List.mem_append, List.mem_singleton] at ht
        rcases ht with (ht | ht) | ht
        · exact ih (l.length - hf l.length) (by omega) _ List.length_drop (fun s hs => hl s (List.mem_of_mem_drop hs)) t ht
        · exact ih (hf l.length) (by omega) _ (by rw [List.length_take]; omega) (fun s hs => hl s (List.mem_of_mem_take hs)) t ht
        · rw [ht, topL_more sm l (by omega)]; unfold nodeI; rw [List.length_cons, List.length_append, h32, h32]; omega
end Go.Proofs.YtgickejfcmnaiaaDoor
namespace Go.Proofs.YtgickejfcmnaiaaDoor
set_option maxRecDepth 100000
set_option linter.unusedVariables false
theorem last_get (x : List (List UInt8)) (h : 0 < x.length) : x.getLastD [] = x[x.length - 1]'(by omega) := by
  rw [last_getD, List.getD_eq_getElem?_getD, List.getElem?_eq_getElem (by omega)]; rfl
theorem last_mem (x : List (List UInt8)) (h : 0 < x.length) : x.getLastD [] ∈ x := by
  rw [last_get x h]; exact List.getElem_mem _
theorem inL_facts (sm : List UInt8 → List UInt8) (h32 : ∀ s, (sm s).length = 32) : ∀ (m n i : Nat) (s : List UInt8) (p L : List (List UInt8)), n = m → 1 ≤ n → (∀ x ∈ p, x.length = 32) → inL sm n i s p = some L →
    L.length ≤ n ∧ 0 < L.length ∧ ∀ t ∈ L, t.length ≤ s.length + 65 := by
  intro m
  induction m using Nat.strongRecOn with
  | _ m ih =>
    intro n i s p L hn h1n hp h
    by_cases h1 : n ≤ 1
    · rw [inL_one sm _ _ _ _ h1] at h
      by_cases hp0 : p.length = 0
      · rw [if_pos hp0] at h
        cases h
        exact ⟨by simp; omega, by simp, fun t ht => by simp at ht; subst ht; simp [leafI]⟩
      · rw [if_neg hp0] at h; cases h
    · by_cases hp0 : p.length = 0
      · rw [inL_none sm _ _ _ _ (by omega) hp0] at h; cases h
      · have hlt := hf_lt n (by omega)
        have hps := hf_pos n
        have hl := hp _ (last_mem p (by omega))
        have hp' : ∀ s ∈ p.dropLast, s.length = 32 := fun s hs => hp s (List.dropLast_subset _ hs)
        by_cases hi : i < hf n
        · rw [inL_left sm _ _ _ _ (by omega) hp0 hi, Option.map_eq_some_iff] at h
          obtain ⟨L', hL', rfl⟩ := h
          obtain ⟨e1, e2, e3⟩ := ih (hf n) (by omega) (hf n) i s p.dropLast L' rfl hps hp' hL'
          refine ⟨by rw [List.length_append]; simp only [List.length_cons, List.length_nil]; omega, by simp, fun t ht => ?_⟩
          rcases List.mem_append.1 ht with h | h
          · exact e3 t h
          · rw [List.mem_singleton] at h; rw [h]; unfold nodeI; rw [List.length_cons, List.length_append, h32, hl]; omega
        · rw [inL_right sm _ _ _ _ (by omega) hp0 hi, Option.map_eq_some_iff] at h
          obtain ⟨L', hL', rfl⟩ := h
          obtain ⟨e1, e2, e3⟩ := ih (n - hf n) (by omega) (n - hf n) (i - hf n) s p.dropLast L' rfl (by omega) hp' hL'
          refine ⟨by rw [List.length_append]; simp only [List.length_cons, List.length_nil]; omega, by simp, fun t ht => ?_⟩
          rcases List.mem_append.1 ht with h | h
          · exact e3 t h
          · rw [List.mem_singleton] at h; rw [h]; unfold nodeI; rw [List.length_cons, List.length_append, h32, hl]; omega
end Go.Proofs.YtgickejfcmnaiaaDoor
namespace Go.Proofs.YtgickejfcmnaiaaDoor
set_option maxRecDepth 100000
set_option linter.unusedVariables false
section
variable (sm : List UInt8 → List UInt8)
def fuR : List (List UInt8) → List (List UInt8) → Option (List UInt8 × List UInt8)
  | a :: x, b :: y => if a = b then fuR x y else unL sm a b
  | _, _ => none
def fuL (x y : List (List UInt8)) : Option (List UInt8 × List UInt8) := fuR sm x.reverse y.reverse
/-- All inputs of a row, the root's last. -/
def allI (l : List (List UInt8)) : List (List UInt8) := insL sm l ++ [rootI l.length (crownL sm l)]
theorem rev_drop (x : List (List UInt8)) (k : Nat) (h : k < x.length) : x.reverse.drop k = x[x.length - 1 - k]'(by omega) :: x.reverse.drop (k + 1) := by
  rw [List.drop_eq_getElem_cons (by simpa using h), List.getElem_reverse]
theorem fu_back (x y : List (List UInt8)) (hl : x.length = y.length) : ∀ k, k ≤ x.length → fuR sm (x.reverse.drop (x.length - k)) (y.reverse.drop (x.length - k)) = backL sm x y k
  | 0, _ => by
    rw [Nat.sub_zero, List.drop_eq_nil_of_le (by simp)]
    rfl
  | k + 1, h => by
    rw [rev_drop x _ (by omega), rev_drop y _ (by omega), fuR, backL]
    have e1 : x.getD k [] = x[x.length - 1 - (x.length - (k + 1))]'(by omega) := by
      rw [List.getD_eq_getElem?_getD, List.getElem?_eq_getElem (by omega), Option.getD_some]
      congr 1
      omega
    have e2 : y.getD k [] = y[y.length - 1 - (x.length - (k + 1))]'(by omega) := by
      rw [List.getD_eq_getElem?_getD, List.getElem?_eq_getElem (by omega), Option.getD_some]
      congr 1
      omega
    rw [← e1, ← e2, show x.length - (k + 1) + 1 = x.length - k by omega, fu_back x y hl k (by omega)]
    by_cases hc : x.getD k [] = y.getD k []
    · rw [if_pos hc, if_neg (by simpa using hc)]
    · rw [if_neg hc, if_pos hc]
theorem fuL_back (x y : List (List UInt8)) (hl : x.length = y.length) : fuL sm x y = backL sm x y x.length := by
  have := fu_back sm x y hl x.length (Nat.le_refl _)
  rw [Nat.sub_self, List.drop_zero, List.drop_zero] at this
  exact this
theorem ins_cr (h32 : ∀ s, (sm s).length = 32) : ∀ (m : Nat) (a b u v : List (List UInt8)), a.length = m → b.length = m → 1 ≤ m → sm (topL sm a) = sm (topL sm b) →
    fuR sm ((insL sm a).reverse ++ u) ((insL sm b).reverse ++ v) = match crL sm a b with | some z => some z | none => fuR sm u v := by
  intro m
  induction m using Nat.strongRecOn with
  | _ m ih =>
    intro a b u v ha hb h1 hs
    have hIa : ∃ r, (insL sm a).reverse = topL sm a :: r ∧ (a.length ≤ 1 → r = []) ∧ (2 ≤ a.length → r = (insL sm (a.take (hf a.length))).reverse ++ (insL sm (a.drop (hf a.length))).reverse) := by
      by_cases h2 : a.length ≤ 1
      · match a, h2, ha with
        | [s], _, _ => exact ⟨[], by rw [insL_one, topL_one]; rfl, fun _ => rfl, fun h => by simp at h⟩
        | [], _, ha => simp at ha; omega
        | _ :: _ :: _, h2, _ => simp at h2
      · exact ⟨_, by rw [insL_more sm a (by omega), List.reverse_append, List.reverse_append, List.reverse_singleton]; rfl, fun h => absurd h h2, fun _ => rfl⟩
    have hIb : ∃ r, (insL sm b).reverse = topL sm b :: r ∧ (b.length ≤ 1 → r = []) ∧ (2 ≤ b.length → r = (insL sm (b.take (hf b.length))).reverse ++ (insL sm (b.drop (hf b.length))).reverse) := by
      by_cases h2 : b.length ≤ 1
      · match b, h2, hb with
        | [s], _, _ => exact ⟨[], by rw [insL_one, topL_one]; rfl, fun _ => rfl, fun h => by simp at h⟩
        | [], _, hb => simp at hb; omega
        | _ :: _ :: _, h2, _ => simp at h2
      · exact ⟨_, by rw [insL_more sm b (by omega), List.reverse_append, List.reverse_append, List.reverse_singleton]; rfl, fun h => absurd h h2, fun _ => rfl⟩
    obtain ⟨ra, ea, ra1, ra2⟩ := hIa
    obtain ⟨rb, eb, rb1, rb2⟩ := hIb
    rw [ea, eb, List.cons_append, List.cons_append, fuR, crL]
    by_cases ht : topL sm a = topL sm b
    · rw [if_pos ht, if_neg (fun h => h ht)]
      by_cases h2 : a.length ≤ 1
      · rw [dif_pos h2, ra1 h2, rb1 (by omega)]; rfl
      · rw [dif_neg h2, ra2 (by omega), rb2 (by omega)]
        have hlt := hf_lt a.length (by omega)
        have hps := hf_pos a.length
        have ht' := ht
        rw [topL_more sm a (by omega), topL_more sm b (by omega), hb, ← ha] at ht'
        obtain ⟨e1, e2⟩ := nodeI_inj (by rw [h32, h32]) ht'
        rw [hb, ← ha, List.append_assoc, List.append_assoc]
        rw [ih (hf a.length) (by omega) (a.take (hf a.length)) (b.take (hf a.length)) _ _ (by rw [List.length_take]; omega) (by rw [List.length_take]; omega) hps e1]
        rw [ih (a.length - hf a.length) (by omega) (a.drop (hf a.length)) (b.drop (hf a.length)) _ _ List.length_drop (by rw [List.length_drop]; omega) (by omega) e2]
        cases crL sm (a.take (hf a.length)) (b.take (hf a.length)) <;> rfl
    · rw [if_neg ht, if_pos ht, unL_some sm _ _ ht hs]
theorem differ_all (h32 : ∀ s, (sm s).length = 32) (a b : List (List UInt8)) (ha : a.length ≤ 4096) (hb : b.length ≤ 4096) : differL sm a b = fuL sm (allI sm a) (allI sm b) := by
  unfold differL fuL allI
  rw [if_neg (by omega), List.reverse_append, List.reverse_append, List.reverse_singleton, List.reverse_singleton, List.singleton_append, List.singleton_append, fuR]
  by_cases hr : rootI a.length (crownL sm a) = rootI b.length (crownL sm b)
  · rw [if_neg (fun h => h hr), if_pos hr]
    obtain ⟨e1, e2⟩ := rootI_inj _ _ ha hb _ _ hr
    by_cases h0 : a.length = 0
    · rw [if_pos h0, insL_nil sm a h0, insL_nil sm b (by omega)]; rfl
    · rw [if_neg h0]
      unfold crownL at e2
      rw [if_neg h0, if_neg (by omega)] at e2
      have := ins_cr sm h32 a.length a b [] [] rfl e1.symm (by omega) e2
      rw [List.append_nil, List.append_nil] at this
      rw [this]
      cases crL sm a b <;> rfl
  · rw [if_pos hr, if_neg hr]
end
end Go.Proofs.YtgickejfcmnaiaaDoor
namespace Go.Proofs.YtgickejfcmnaiaaDoor
set_option maxRecDepth 100000
set_option linter.unusedVariables false
section
variable (sm : List UInt8 → List UInt8)
def chDifL (a b : List (List UInt8)) : Option (List UInt8 × List UInt8) :=
  if headF sm [] a = none ∨ headF sm [] b = none then none else fuL sm (insC (linksF sm [] a)) (insC (linksF sm [] b))
theorem fuR_honest : ∀ (a b : List (List UInt8)) (x y : List UInt8), fuR sm a b = some (x, y) → x ≠ y ∧ sm x = sm y
  | [], _, _, _, h => by cases h
  | _ :: _, [], _, _, h => by cases h
  | s :: a, t :: b, x, y, h => by
    rw [fuR] at h
    by_cases hc : s = t
    · rw [if_pos hc] at h; exact fuR_honest a b x y h
    · rw [if_neg hc] at h; exact unL_honest sm _ _ _ _ h
theorem fuR_in : ∀ (a b : List (List UInt8)) (x y : List UInt8), fuR sm a b = some (x, y) → x ∈ a ∧ y ∈ b
  | [], _, _, _, h => by cases h
  | _ :: _, [], _, _, h => by cases h
  | s :: a, t :: b, x, y, h => by
    rw [fuR] at h
    by_cases hc : s = t
    · rw [if_pos hc] at h
      have := fuR_in a b x y h
      exact ⟨List.mem_cons_of_mem _ this.1, List.mem_cons_of_mem _ this.2⟩
    · rw [if_neg hc] at h
      unfold unL at h
      by_cases hd : s ≠ t ∧ sm s = sm t
      · rw [if_pos hd] at h; cases h; exact ⟨List.mem_cons_self .., List.mem_cons_self ..⟩
      · rw [if_neg hd] at h; cases h
theorem chDif_honest (a b : List (List UInt8)) (x y : List UInt8) (h : chDifL sm a b = some (x, y)) : x ≠ y ∧ sm x = sm y := by
  unfold chDifL at h
  by_cases hc : headF sm [] a = none ∨ headF sm [] b = none
  · rw [if_pos hc] at h; cases h
  · rw [if_neg hc] at h; exact fuR_honest sm _ _ x y h
/-- Two unlike rows of as many bodies and one head. -/
theorem dif_rev : ∀ (a b : List (List UInt8)) (h : List UInt8), a.length = b.length → a ≠ b → headF sm [] a.reverse = some h → headF sm [] b.reverse = some h → ∃ z, fuL sm (insC (linksF sm [] a.reverse)) (insC (linksF sm [] b.reverse)) = some z
  | [], [], h, _, hne, _, _ => absurd rfl hne
  | [], _ :: _, h, hl, _, _, _ => by simp at hl
  | _ :: _, [], h, hl, _, _, _ => by simp at hl
  | x :: a, y :: b, h, hl, hne, ha, hb => by
    rw [List.reverse_cons, headF_snoc] at ha hb
    cases ea : headF sm [] a.reverse with
    | none => rw [ea] at ha; cases ha
    | some p =>
      cases eb : headF sm [] b.reverse with
      | none => rw [eb] at hb; cases hb
      | some q =>
        rw [ea] at ha
        rw [eb] at hb
        by_cases hpx : bigB p x
        · simp only [if_pos hpx] at ha; cases ha
        · by_cases hqy : bigB q y
          · simp only [if_pos hqy] at hb; cases hb
          · simp only [if_neg hpx, Option.some.injEq] at ha
            simp only [if_neg hqy, Option.some.injEq] at hb
            rw [List.reverse_cons, List.reverse_cons, linksF_snoc sm _ x [] p ea, linksF_snoc sm _ y [] q eb]
            unfold fuL insC
            rw [List.map_append, List.map_append, List.reverse_append, List.reverse_append]
            show ∃ z, fuR sm (cinL p x :: _) (cinL q y :: _) = some z
            rw [fuR]
            by_cases hc : cinL p x = cinL q y
            · rw [if_pos hc]
              obtain ⟨e1, e2⟩ := cinL_inj p x q y hpx hqy hc
              subst e1 e2
              exact dif_rev a b p (by simpa using hl) (fun he => hne (by rw [he])) ea eb
            · rw [if_neg hc, unL_some sm _ _ hc (by rw [ha, hb])]
              exact ⟨_, rfl⟩
theorem chDif_some (a b : List (List UInt8)) (h : List UInt8) (hl : a.length = b.length) (hne : a ≠ b) (ha : headF sm [] a = some h) (hb : headF sm [] b = some h) : ∃ z, chDifL sm a b = some z := by
  have := dif_rev sm a.reverse b.reverse h (by simpa using hl) (fun he => hne (by have := congrArg List.reverse he; simpa using this)) (by simpa using ha) (by simpa using hb)
  rw [List.reverse_reverse, List.reverse_reverse] at this
  unfold chDifL
  rw [if_neg (by rw [ha, hb]; simp)]
  exact this
end
end Go.Proofs.YtgickejfcmnaiaaDoor
namespace Go.Proofs.YtgickejfcmnaiaaDoor
set_option maxRecDepth 100000
open Go.RowKit
set_option linter.unusedVariables false
/-- What Climb leaves: the row, and the error. -/
def ClRes (w : World) (c : List (List UInt8) × Nat) (e : Ending) (w' : World) : Prop := ∃ r, e = .returned (.tuple #[r, .int .i64 (c.2 : Int)]) ∧ Below w.heap.size w w' ∧ w'.ownsRow w.heap.size 9 1 r c.1.length (strV c.1)
theorem rootI_len (n : Nat) (c : List UInt8) (hc : c.length ≤ 32) : (rootI n c).length ≤ 50 := by
  unfold rootI
  have := Lm.numL_length n
  have := Lm.cnt_le n
  rw [List.length_cons, List.length_append]; omega
/-- Two texts given away, or none, as three results. -/
def unV : Option (List UInt8 × List UInt8) → Value
  | some (x, y) => .tuple #[.string ⟨x.toArray⟩, .string ⟨y.toArray⟩, .bool true]
  | none => .tuple #[.string ⟨#[]⟩, .string ⟨#[]⟩, .bool false]
theorem climb_rows (sm : List UInt8 → List UInt8) (h32 : ∀ s, (sm s).length = 32) (n i : Int) (s : List UInt8) (p : List (List UInt8)) (h : (climbL sm n i s p).2 = 0) : (climbL sm n i s p).1.length ≤ 4097 ∧ 0 < (climbL sm n i s p).1.length ∧ ∀ t ∈ (climbL sm n i s p).1, t.length ≤ s.length + 65 := by
  obtain ⟨hA, hp, l, hl, hc⟩ := climb_ok sm n i s p h
  obtain ⟨f1, f2, f3⟩ := inL_facts sm h32 n.toNat n.toNat i.toNat s p l rfl (by omega) hp hl
  rw [hc]
  refine ⟨by rw [List.length_append]; simp only [List.length_cons, List.length_nil]; omega, by simp, fun t ht => ?_⟩
  rcases List.mem_append.1 ht with h | h
  · exact f3 t h
  · rw [List.mem_singleton] at h; rw [h]
    have := rootI_len n.toNat (sm (l.getLastD [])) (by rw [h32]; omega)
    omega
theorem unL_eq (sm : List UInt8 → List UInt8) (a : List UInt8) : unL sm a a = none := by unfold unL; rw [if_neg (fun h => h.1 rfl)]
theorem unL_ne (sm : List UInt8 → List UInt8) (a b : List UInt8) (h : sm a ≠ sm b) : unL sm a b = none := by unfold unL; rw [if_neg (fun h' => h h'.2)]
end Go.Proofs.YtgickejfcmnaiaaDoor
