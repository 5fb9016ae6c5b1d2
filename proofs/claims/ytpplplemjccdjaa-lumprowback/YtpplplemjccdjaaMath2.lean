/-
  Plain facts on rows of texts as bytes, and on what is taken from bytes: no program in sight.
-/
import Derived.Test.YtpplplemjccdjaaMath
namespace Go.Proofs.Ytpplplemjccdjaa.Lm
/-- n texts, one behind the other. -/
def takeN : Nat → List UInt8 → Int → List (List UInt8) × List UInt8 × Nat
  | 0, s, _ => ([], s, 0)
  | n + 1, s, most =>
    if (takeTextL s most).2.2 ≠ 0 then ([], [], (takeTextL s most).2.2)
    else if (takeN n (takeTextL s most).2.1 most).2.2 ≠ 0 then ([], [], (takeN n (takeTextL s most).2.1 most).2.2)
    else ((takeTextL s most).1 :: (takeN n (takeTextL s most).2.1 most).1, (takeN n (takeTextL s most).2.1 most).2.1, 0)
def takeRowL (s : List UInt8) (many most : Int) : List (List UInt8) × List UInt8 × Nat :=
  if (takeLenL s many).2.2 ≠ 0 then ([], [], (takeLenL s many).2.2) else takeN (takeLenL s many).1 (takeLenL s many).2.1 most
/-- What was taken ahead, and what is taken then. -/
def pre (l : List (List UInt8)) (x : List (List UInt8) × List UInt8 × Nat) : List (List UInt8) × List UInt8 × Nat :=
  if x.2.2 ≠ 0 then ([], [], x.2.2) else (l ++ x.1, x.2.1, 0)
theorem pre_nil (x : List (List UInt8) × List UInt8 × Nat) (h : x.2.2 ≠ 0 → x.1 = [] ∧ x.2.1 = []) : pre [] x = x := by
  obtain ⟨a, b, c⟩ := x
  unfold pre
  by_cases hc : c = 0
  · simp [hc]
  · have := h hc; simp at this; simp [hc, this]
theorem takeN_bad (n : Nat) (s : List UInt8) (most : Int) : (takeN n s most).2.2 ≠ 0 → (takeN n s most).1 = [] ∧ (takeN n s most).2.1 = [] := by
  cases n with
  | zero => simp [takeN]
  | succ n =>
    rw [takeN]
    split
    · simp
    · split
      · simp
      · simp
theorem pre_step_bad (l : List (List UInt8)) (n : Nat) (s : List UInt8) (most : Int) (h : (takeTextL s most).2.2 ≠ 0) : pre l (takeN (n + 1) s most) = ([], [], (takeTextL s most).2.2) := by
  rw [takeN, if_pos h, pre, if_pos h]
theorem pre_step_ok (l : List (List UInt8)) (n : Nat) (s : List UInt8) (most : Int) (h : (takeTextL s most).2.2 = 0) : pre l (takeN (n + 1) s most) = pre (l ++ [(takeTextL s most).1]) (takeN n (takeTextL s most).2.1 most) := by
  rw [takeN, if_neg (by omega)]
  by_cases h2 : (takeN n (takeTextL s most).2.1 most).2.2 = 0
  · rw [if_neg (by omega)]
    simp [pre, h2]
  · rw [if_pos h2]
    simp [pre, h2]
theorem takeN_body (ss : List (List UInt8)) (h : ∀ t ∈ ss, t.length ≤ 65535) (most : Int) (hm : 65535 ≤ most) (more : List UInt8) : takeN ss.length (body ss ++ more) most = (ss, more, 0) := by
  induction ss with
  | nil => simp [takeN, body]
  | cons t r ih =>
    have h1 := h t (by simp)
    have h2 := ih (fun x hx => h x (by simp [hx]))
    have h3 := takeText_text t h1 most (by omega) (body r ++ more)
    rw [List.length_cons, takeN, body, List.append_assoc, h3]
    simp [h2]
theorem takeRow_row (ss : List (List UInt8)) (h : rowOk ss = true) (more : List UInt8) : takeRowL (lenL ss.length ++ body ss ++ more) ss.length 65535 = (ss, more, 0) := by
  rw [rowOk_iff] at h
  unfold takeRowL
  rw [List.append_assoc, takeLen_len ss.length h.1 ss.length (Int.le_refl _)]
  simp [takeN_body ss h.2 65535 (Int.le_refl _) more]
theorem row_inj (a b : List (List UInt8)) (ha : rowOk a = true) (hb : rowOk b = true) : lenL a.length ++ body a = lenL b.length ++ body b ↔ a = b := by
  constructor
  · intro h
    have h1 := takeRow_row a ha []
    have h2 := takeRow_row b hb []
    simp only [List.append_nil] at h1 h2
    have e1 := size_len a.length ((rowOk_iff a).1 ha).1 (body a)
    have e2 := size_len b.length ((rowOk_iff b).1 hb).1 (body b)
    rw [h, e2] at e1
    simp only [Prod.mk.injEq] at e1
    rw [h, ← e1.1] at h1
    rw [h1] at h2
    simp only [Prod.mk.injEq] at h2
    exact h2.1
  · rintro rfl; rfl
/-! ### Of a row's bytes no beginning is one -/
theorem takeText_short (t : List UInt8) (h : t.length ≤ 65535) (c : Nat) (hc : c < (lenL t.length ++ t).length) (most : Int) (hm : 65535 ≤ most) : (takeTextL ((lenL t.length ++ t).take c) most).2.2 = 2 := by
  by_cases hc2 : (lenL t.length).length ≤ c
  · have e : (lenL t.length ++ t).take c = lenL t.length ++ t.take (c - (lenL t.length).length) := by
      rw [List.take_append, List.take_of_length_le hc2]
    rw [e]
    simp only [takeTextL, takeLen_len t.length h most (by omega)]
    simp only [List.length_append] at hc
    have : (t.take (c - (lenL t.length).length)).length < t.length := by simp; omega
    rw [if_neg (by simp), if_pos this]
  · have hsz : sizeL ((lenL t.length ++ t).take c) = (0, [], 2) := by
      rw [List.take_append_of_le_length (by omega)]
      unfold lenL at hc2 ⊢
      by_cases h1 : t.length ≤ 250
      · rw [if_pos h1] at hc2 ⊢
        have : c = 0 := by simp at hc2; exact hc2
        subst this; rfl
      · rw [if_neg h1] at hc2 ⊢
        have : c = 0 ∨ c = 1 ∨ c = 2 := by simp at hc2; omega
        rcases this with rfl | rfl | rfl
        · rfl
        · rfl
        · rfl
    simp [takeTextL, takeLenL, hsz]
theorem takeLen_short (n : Nat) (c : Nat) (hc : c < (lenL n).length) (most : Int) : takeLenL ((lenL n).take c) most = (0, [], 2) := by
  have hsz : sizeL ((lenL n).take c) = (0, [], 2) := by
    unfold lenL at hc ⊢
    by_cases h1 : n ≤ 250
    · rw [if_pos h1] at hc ⊢
      have : c = 0 := by simp at hc; exact hc
      subst this; rfl
    · rw [if_neg h1] at hc ⊢
      have : c = 0 ∨ c = 1 ∨ c = 2 := by simp at hc; omega
      rcases this with rfl | rfl | rfl
      · rfl
      · rfl
      · rfl
  simp [takeLenL, hsz]
theorem takeN_short (ss : List (List UInt8)) (h : ∀ t ∈ ss, t.length ≤ 65535) (c : Nat) (hc : c < (body ss).length) (most : Int) (hm : 65535 ≤ most) : (takeN ss.length ((body ss).take c) most).2.2 = 2 := by
  induction ss generalizing c with
  | nil => simp [body] at hc
  | cons t r ih =>
    have h1 := h t (by simp)
    rw [List.length_cons, takeN, body]
    by_cases hc2 : c < (lenL t.length ++ t).length
    · rw [List.take_append_of_le_length (by omega)]
      have h2 := takeText_short t h1 c hc2 most hm
      simp [h2]
    · have e : (lenL t.length ++ t ++ body r).take c = lenL t.length ++ t ++ (body r).take (c - (lenL t.length ++ t).length) := by
        rw [List.take_append, List.take_of_length_le (by omega)]
      rw [e, takeText_text t h1 most (by omega)]
      have hc' : c - (lenL t.length ++ t).length < (body r).length := by
        rw [body] at hc; simp only [List.length_append] at hc hc2 ⊢; omega
      have h3 := ih (fun x hx => h x (by simp [hx])) _ hc'
      simp only [h3]
      simp
theorem takeRow_short (ss : List (List UInt8)) (h : rowOk ss = true) (c : Nat) (hc : c < (lenL ss.length ++ body ss).length) : (takeRowL ((lenL ss.length ++ body ss).take c) ss.length 65535).2.2 = 2 := by
  rw [rowOk_iff] at h
  unfold takeRowL
  by_cases hc2 : c < (lenL ss.length).length
  · rw [List.take_append_of_le_length (by omega), takeLen_short ss.length c hc2]
    simp
  · have e : (lenL ss.length ++ body ss).take c = lenL ss.length ++ (body ss).take (c - (lenL ss.length).length) := by
      rw [List.take_append, List.take_of_length_le (by omega)]
    rw [e, takeLen_len ss.length h.1 ss.length (Int.le_refl _)]
    simp only [List.length_append] at hc
    have := takeN_short ss h.2 (c - (lenL ss.length).length) (by omega) 65535 (Int.le_refl _)
    simp [this]
theorem takeNum_short (v : Nat) (c : Nat) (hc : c < (numL v).length) : (takeNumL ((numL v).take c)).2.2 = 2 := by
  rw [numL_length] at hc
  unfold numL
  cases c with
  | zero => rfl
  | succ c =>
    rw [List.take_succ_cons, takeNumL, ofNat_cnt]
    have h8 := cnt_le v
    have hl : ((low (cnt v) v).take c).length < cnt v := by simp [low_length]; omega
    rw [if_neg (by omega), if_pos hl]
end Go.Proofs.Ytpplplemjccdjaa.Lm
namespace Go.Proofs.Ytpplplemjccdjaa
theorem sizeL_bd (l : List UInt8) : (Lm.sizeL l).1 ≤ 65535 ∧ (Lm.sizeL l).2.1.length ≤ l.length := by
  unfold Lm.sizeL
  split
  · simp
  · rename_i n r
    have := n.toNat_lt
    split
    · simp; omega
    · split
      · simp
      · split
        · rename_i a b r'
          have := a.toNat_lt
          have := b.toNat_lt
          split <;> simp <;> omega
        · simp
theorem takeLenL_bd (l : List UInt8) (most : Int) : (Lm.takeLenL l most).1 ≤ 65535 ∧ (Lm.takeLenL l most).2.1.length ≤ l.length := by
  have := sizeL_bd l
  unfold Lm.takeLenL
  split
  · simp
  · split
    · simp
    · exact this
theorem takeTextL_bd (l : List UInt8) (most : Int) : (Lm.takeTextL l most).1.length ≤ 65535 ∧ (Lm.takeTextL l most).2.1.length ≤ l.length := by
  have := takeLenL_bd l most
  unfold Lm.takeTextL
  split
  · simp
  · split
    · simp
    · simp; omega
end Go.Proofs.Ytpplplemjccdjaa
