/-
  The first two inputs that are unlike, backwards; that of all inputs of two rows it is what their crowns give: of no program.
-/
import Derived.Test.YtlkkdfopecbekaaDoorZTreeI
import Derived.Test.YtlkkdfopecbekaaDoorGA
namespace Go.Proofs.YtlkkdfopecbekaaDoor
set_option maxRecDepth 100000
set_option linter.unusedVariables false
section
variable (sm : List UInt8 → List UInt8)
def fuR : List (List UInt8) → List (List UInt8) → Option (List UInt8 × List UInt8)
  | a :: x, b :: y => if a = b then fuR x y else unL sm a b
  | _, _ => none
def fuL (x y : List (List UInt8)) : Option (List UInt8 × List UInt8) := fuR sm x.reverse y.reverse
/-- All inputs of a row, the root's last. -/
def allI (l : List (List UInt8)) : List (List UInt8) := insL sm l ++ [rootI l.length (crownL sm l)]
theorem rev_drop (x : List (List UInt8)) (k : Nat) (h : k < x.length) : x.reverse.drop k = x[x.length - 1 - k]'(by omega) :: x.reverse.drop (k + 1) := by
  rw [List.drop_eq_getElem_cons (by simpa using h), List.getElem_reverse]
theorem fu_back (x y : List (List UInt8)) (hl : x.length = y.length) : ∀ k, k ≤ x.length → fuR sm (x.reverse.drop (x.length - k)) (y.reverse.drop (x.length - k)) = backL sm x y k
  | 0, _ => by
    rw [Nat.sub_zero, List.drop_eq_nil_of_le (by simp)]
    rfl
  | k + 1, h => by
    rw [rev_drop x _ (by omega), rev_drop y _ (by omega), fuR, backL]
    have e1 : x.getD k [] = x[x.length - 1 - (x.length - (k + 1))]'(by omega) := by
      rw [List.getD_eq_getElem?_getD, List.getElem?_eq_getElem (by omega), Option.getD_some]
      congr 1
      omega
    have e2 : y.getD k [] = y[y.length - 1 - (x.length - (k + 1))]'(by omega) := by
      rw [List.getD_eq_getElem?_getD, List.getElem?_eq_getElem (by omega), Option.getD_some]
      congr 1
      omega
    rw [← e1, ← e2, show x.length - (k + 1) + 1 = x.length - k by omega, fu_back x y hl k (by omega)]
    by_cases hc : x.getD k [] = y.getD k []
    · rw [if_pos hc, if_neg (by simpa using hc)]
    · rw [if_neg hc, if_pos hc]
theorem fuL_back (x y : List (List UInt8)) (hl : x.length = y.length) : fuL sm x y = backL sm x y x.length := by
  have := fu_back sm x y hl x.length (Nat.le_refl _)
  rw [Nat.sub_self, List.drop_zero, List.drop_zero] at this
  exact this
theorem ins_cr (h32 : ∀ s, (sm s).length = 32) : ∀ (m : Nat) (a b u v : List (List UInt8)), a.length = m → b.length = m → 1 ≤ m → sm (topL sm a) = sm (topL sm b) →
    fuR sm ((insL sm a).reverse ++ u) ((insL sm b).reverse ++ v) = match crL sm a b with | some z => some z | none => fuR sm u v := by
  intro m
  induction m using Nat.strongRecOn with
  | _ m ih =>
    intro a b u v ha hb h1 hs
    have hIa : ∃ r, (insL sm a).reverse = topL sm a :: r ∧ (a.length ≤ 1 → r = []) ∧ (2 ≤ a.length → r = (insL sm (a.take (hf a.length))).reverse ++ (insL sm (a.drop (hf a.length))).reverse) := by
      by_cases h2 : a.length ≤ 1
      · match a, h2, ha with
        | [s], _, _ => exact ⟨[], by rw [insL_one, topL_one]; rfl, fun _ => rfl, fun h => by simp at h⟩
        | [], _, ha => simp at ha; omega
        | _ :: _ :: _, h2, _ => simp at h2
      · exact ⟨_, by rw [insL_more sm a (by omega), List.reverse_append, List.reverse_append, List.reverse_singleton]; rfl, fun h => absurd h h2, fun _ => rfl⟩
    have hIb : ∃ r, (insL sm b).reverse = topL sm b :: r ∧ (b.length ≤ 1 → r = []) ∧ (2 ≤ b.length → r = (insL sm (b.take (hf b.length))).reverse ++ (insL sm (b.drop (hf b.length))).reverse) := by
      by_cases h2 : b.length ≤ 1
      · match b, h2, hb with
        | [s], _, _ => exact ⟨[], by rw [insL_one, topL_one]; rfl, fun _ => rfl, fun h => by simp at h⟩
        | [], _, hb => simp at hb; omega
        | _ :: _ :: _, h2, _ => simp at h2
      · exact ⟨_, by rw [insL_more sm b (by omega), List.reverse_append, List.reverse_append, List.reverse_singleton]; rfl, fun h => absurd h h2, fun _ => rfl⟩
    obtain ⟨ra, ea, ra1, ra2⟩ := hIa
    obtain ⟨rb, eb, rb1, rb2⟩ := hIb
    rw [ea, eb, List.cons_append, List.cons_append, fuR, crL]
    by_cases ht : topL sm a = topL sm b
    · rw [if_pos ht, if_neg (fun h => h ht)]
      by_cases h2 : a.length ≤ 1
      · rw [dif_pos h2, ra1 h2, rb1 (by omega)]; rfl
      · rw [dif_neg h2, ra2 (by omega), rb2 (by omega)]
        have hlt := hf_lt a.length (by omega)
        have hps := hf_pos a.length
        have ht' := ht
        rw [topL_more sm a (by omega), topL_more sm b (by omega), hb, ← ha] at ht'
        obtain ⟨e1, e2⟩ := nodeI_inj (by rw [h32, h32]) ht'
        rw [hb, ← ha, List.append_assoc, List.append_assoc]
        rw [ih (hf a.length) (by omega) (a.take (hf a.length)) (b.take (hf a.length)) _ _ (by rw [List.length_take]; omega) (by rw [List.length_take]; omega) hps e1]
        rw [ih (a.length - hf a.length) (by omega) (a.drop (hf a.length)) (b.drop (hf a.length)) _ _ List.length_drop (by rw [List.length_drop]; omega) (by omega) e2]
        cases crL sm (a.take (hf a.length)) (b.take (hf a.length)) <;> rfl
    · rw [if_neg ht, if_pos ht, unL_some sm _ _ ht hs]
theorem differ_all (h32 : ∀ s, (sm s).length = 32) (a b : List (List UInt8)) (ha : a.length ≤ 4096) (hb : b.length ≤ 4096) : differL sm a b = fuL sm (allI sm a) (allI sm b) := by
  unfold differL fuL allI
  rw [if_neg (by omega), List.reverse_append, List.reverse_append, List.reverse_singleton, List.reverse_singleton, List.singleton_append, List.singleton_append, fuR]
  by_cases hr : rootI a.length (crownL sm a) = rootI b.length (crownL sm b)
  · rw [if_neg (fun h => h hr), if_pos hr]
    obtain ⟨e1, e2⟩ := rootI_inj _ _ ha hb _ _ hr
    by_cases h0 : a.length = 0
    · rw [if_pos h0, insL_nil sm a h0, insL_nil sm b (by omega)]; rfl
    · rw [if_neg h0]
      unfold crownL at e2
      rw [if_neg h0, if_neg (by omega)] at e2
      have := ins_cr sm h32 a.length a b [] [] rfl e1.symm (by omega) e2
      rw [List.append_nil, List.append_nil] at this
      rw [this]
      cases crL sm a b <;> rfl
  · rw [if_pos hr, if_neg hr]
end
end Go.Proofs.YtlkkdfopecbekaaDoor
