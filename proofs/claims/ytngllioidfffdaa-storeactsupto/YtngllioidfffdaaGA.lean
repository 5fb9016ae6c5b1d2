/-
  Plain facts on numbers, texts and rows as bytes: no program in sight.
  Plain facts on rows of texts as bytes, and on what is taken from bytes: no program in sight.
  Events and their bytes, in lists: of no program.
  Plain facts on the records that bytes begin with, and on tapes: no program in sight.
  The records that bytes begin with, each with where it ends: plain lists.
-/
namespace Go.Proofs.Ytngllioidfffdaa.Lm

/-- How many bytes a number below 2^64 takes. -/
def cnt (v : Nat) : Nat :=
  if v = 0 then 0 else if v < 256 then 1 else if v < 65536 then 2 else if v < 16777216 then 3 else if v < 4294967296 then 4
  else if v < 1099511627776 then 5 else if v < 281474976710656 then 6 else if v < 72057594037927936 then 7 else 8

/-- The low k bytes of v, the highest first. -/
def low : Nat → Nat → List UInt8
  | 0, _ => []
  | k + 1, v => UInt8.ofNat (v / 256 ^ k) :: low k v

def numL (v : Nat) : List UInt8 := UInt8.ofNat (cnt v) :: low (cnt v) v

def val (l : List UInt8) : Nat := l.foldl (fun a b => 256 * a + b.toNat) 0

theorem low_length (k v : Nat) : (low k v).length = k := by
  induction k with
  | zero => rfl
  | succ k ih => simp [low, ih]

theorem foldl_val (l : List UInt8) (a : Nat) : l.foldl (fun a b => 256 * a + b.toNat) a = a * 256 ^ l.length + val l := by
  unfold val
  induction l generalizing a with
  | nil => simp
  | cons b l ih =>
    simp only [List.foldl_cons, List.length_cons]
    rw [ih, ih (256 * 0 + b.toNat)]
    rw [Nat.pow_succ]
    generalize 256 ^ l.length = p
    have : (256 * a + b.toNat) * p = a * (p * 256) + b.toNat * p := by
      rw [Nat.add_mul, Nat.mul_comm 256 a, Nat.mul_assoc, Nat.mul_comm 256 p]
    rw [this]; simp; omega

theorem val_cons (b : UInt8) (l : List UInt8) : val (b :: l) = b.toNat * 256 ^ l.length + val l := by
  rw [val, List.foldl_cons, foldl_val]; simp

theorem val_snoc (l : List UInt8) (b : UInt8) : val (l ++ [b]) = 256 * val l + b.toNat := by
  simp [val, List.foldl_append]

theorem val_lt (l : List UInt8) : val l < 256 ^ l.length := by
  induction l with
  | nil => simp [val]
  | cons b l ih =>
    rw [val_cons, List.length_cons, Nat.pow_succ]
    have hb : b.toNat < 256 := b.toNat_lt
    have : b.toNat * 256 ^ l.length ≤ 255 * 256 ^ l.length := Nat.mul_le_mul_right _ (by omega)
    omega

theorem val_low (k v : Nat) : val (low k v) = v % 256 ^ k := by
  induction k with
  | zero => simp [low, val, Nat.mod_one]
  | succ k ih =>
    rw [low, val_cons, low_length, ih]
    have h : (UInt8.ofNat (v / 256 ^ k)).toNat = v / 256 ^ k % 256 := by simp
    rw [h, Nat.pow_succ, Nat.mod_mul, Nat.mul_comm]; omega

theorem low_val (l : List UInt8) : low l.length (val l) = l := by
  induction l with
  | nil => rfl
  | cons b l ih =>
    have hlt := val_lt l
    rw [List.length_cons, low, val_cons]
    have hp : 0 < 256 ^ l.length := Nat.pow_pos (by omega)
    have h1 : (b.toNat * 256 ^ l.length + val l) / 256 ^ l.length = b.toNat := by
      rw [Nat.add_comm, Nat.add_mul_div_right _ _ hp, Nat.div_eq_of_lt hlt]; omega
    rw [h1]
    have h2 : ∀ k v w, v % 256 ^ k = w % 256 ^ k → low k v = low k w := by
      intro k
      induction k with
      | zero => intros; rfl
      | succ k ihk =>
        intro v w h
        have e1 : v / 256 ^ k % 256 = w / 256 ^ k % 256 := by
          rw [← Nat.mod_mul_right_div_self, ← Nat.mod_mul_right_div_self, ← Nat.pow_succ, h]
        have e2 : v % 256 ^ k = w % 256 ^ k := by
          have := congrArg (· % 256 ^ k) h
          simp only [Nat.pow_succ, Nat.mod_mul_right_mod] at this
          exact this
        rw [low, low, ihk _ _ e2]
        congr 1
        apply UInt8.toNat_inj.1
        simpa using e1
    rw [h2 l.length (b.toNat * 256 ^ l.length + val l) (val l) (by rw [Nat.mul_add_mod_self_right]), ih]
    congr 1
    simp

theorem cnt_le (v : Nat) : cnt v ≤ 8 := by unfold cnt; (repeat' split) <;> omega

theorem cnt_eq (v k : Nat) (hk : k ≤ 8) (h1 : k = 0 ∨ 256 ^ (k - 1) ≤ v) (h2 : v < 256 ^ k) : cnt v = k := by
  have hk' : k = 0 ∨ k = 1 ∨ k = 2 ∨ k = 3 ∨ k = 4 ∨ k = 5 ∨ k = 6 ∨ k = 7 ∨ k = 8 := by omega
  unfold cnt
  rcases hk' with rfl | rfl | rfl | rfl | rfl | rfl | rfl | rfl | rfl <;> simp at h1 h2 <;> (repeat' split) <;> omega

theorem cnt_bounds (v : Nat) (hv : v < 2 ^ 64) : v < 256 ^ cnt v ∧ (cnt v = 0 ∨ 256 ^ (cnt v - 1) ≤ v) := by
  have key : ∀ k, k ≤ 8 → (k = 0 ∨ 256 ^ (k - 1) ≤ v) → v < 256 ^ k → v < 256 ^ cnt v ∧ (cnt v = 0 ∨ 256 ^ (cnt v - 1) ≤ v) := by
    intro k hk h1 h2
    rw [cnt_eq v k hk h1 h2]; exact ⟨h2, h1⟩
  by_cases h0 : v < 1
  · exact key 0 (by omega) (.inl rfl) (by have e : (256 : Nat) ^ 0 = 1 := (by decide); omega)
  by_cases h1 : v < 256
  · exact key 1 (by omega) (.inr (by have e : (256 : Nat) ^ (1 - 1) = 1 := (by decide); omega)) (by have e : (256 : Nat) ^ 1 = 256 := (by decide); omega)
  by_cases h2 : v < 65536
  · exact key 2 (by omega) (.inr (by have e : (256 : Nat) ^ (2 - 1) = 256 := (by decide); omega)) (by have e : (256 : Nat) ^ 2 = 65536 := (by decide); omega)
  by_cases h3 : v < 16777216
  · exact key 3 (by omega) (.inr (by have e : (256 : Nat) ^ (3 - 1) = 65536 := (by decide); omega)) (by have e : (256 : Nat) ^ 3 = 16777216 := (by decide); omega)
  by_cases h4 : v < 4294967296
  · exact key 4 (by omega) (.inr (by have e : (256 : Nat) ^ (4 - 1) = 16777216 := (by decide); omega)) (by have e : (256 : Nat) ^ 4 = 4294967296 := (by decide); omega)
  by_cases h5 : v < 1099511627776
  · exact key 5 (by omega) (.inr (by have e : (256 : Nat) ^ (5 - 1) = 4294967296 := (by decide); omega)) (by have e : (256 : Nat) ^ 5 = 1099511627776 := (by decide); omega)
  by_cases h6 : v < 281474976710656
  · exact key 6 (by omega) (.inr (by have e : (256 : Nat) ^ (6 - 1) = 1099511627776 := (by decide); omega)) (by have e : (256 : Nat) ^ 6 = 281474976710656 := (by decide); omega)
  by_cases h7 : v < 72057594037927936
  · exact key 7 (by omega) (.inr (by have e : (256 : Nat) ^ (7 - 1) = 281474976710656 := (by decide); omega)) (by have e : (256 : Nat) ^ 7 = 72057594037927936 := (by decide); omega)
  exact key 8 (by omega) (.inr (by have e : (256 : Nat) ^ (8 - 1) = 72057594037927936 := (by decide); omega)) (by have e : (256 : Nat) ^ 8 = 2 ^ 64 := (by decide); omega)

theorem cnt_mono (a b : Nat) (hb : b < 2 ^ 64) (h : a ≤ b) : cnt a ≤ cnt b := by
  obtain ⟨h1, h2⟩ := cnt_bounds a (by omega)
  obtain ⟨h3, h4⟩ := cnt_bounds b hb
  rcases Nat.lt_or_ge (cnt b) (cnt a) with h' | h'
  · have : 256 ^ cnt b ≤ 256 ^ (cnt a - 1) := Nat.pow_le_pow_right (by omega) (by omega)
    omega
  · exact h'

/-- The count, as a loop meets it. -/
theorem cnt_of_loop (v k : Nat) (hv : v < 2 ^ 64) (h1 : k = 0 ∨ 0 < v / 256 ^ (k - 1)) (h2 : v / 256 ^ k = 0) : k = cnt v := by
  have hp : ∀ j, 0 < 256 ^ j := fun j => Nat.pow_pos (by omega)
  have h2' : v < 256 ^ k := by
    rcases Nat.lt_or_ge v (256 ^ k) with h | h
    · exact h
    · have := Nat.div_pos h (hp k); omega
  have h1' : k = 0 ∨ 256 ^ (k - 1) ≤ v := by
    rcases h1 with h | h
    · exact .inl h
    · right
      rcases Nat.lt_or_ge v (256 ^ (k - 1)) with h' | h'
      · rw [Nat.div_eq_of_lt h'] at h; omega
      · exact h'
  have hk : k ≤ 8 := by
    rcases h1' with h | h
    · omega
    · rcases Nat.lt_or_ge 8 k with h8 | h8
      · have : 256 ^ 8 ≤ 256 ^ (k - 1) := Nat.pow_le_pow_right (by omega) (by omega)
        have e : (256 : Nat) ^ 8 = 2 ^ 64 := by decide
        omega
      · exact h8
  exact (cnt_eq v k hk h1' h2').symm

theorem loop_le (v k : Nat) (hv : v < 2 ^ 64) (h : 0 < v / 256 ^ k) : k < 8 := by
  rcases Nat.lt_or_ge k 8 with h8 | h8
  · exact h8
  · have h1 : 256 ^ 8 ≤ 256 ^ k := Nat.pow_le_pow_right (by omega) h8
    have e : (256 : Nat) ^ 8 = 2 ^ 64 := by decide
    rw [Nat.div_eq_of_lt (by omega)] at h; omega

def takeNumL : List UInt8 → Nat × List UInt8 × Nat
  | [] => (0, [], 2)
  | n :: r => if 8 < n.toNat then (0, [], 3) else if r.length < n.toNat then (0, [], 2) else if 0 < n.toNat ∧ r.head? = some 0 then (0, [], 3)
    else (val (r.take n.toNat), r.drop n.toNat, 0)

theorem numL_length (v : Nat) : (numL v).length = cnt v + 1 := by simp [numL, low_length]

theorem ofNat_cnt (v : Nat) : (UInt8.ofNat (cnt v)).toNat = cnt v := by
  have := cnt_le v
  rw [UInt8.toNat_ofNat']; omega

theorem low_head (v : Nat) (hv : v < 2 ^ 64) (h : 0 < cnt v) : (low (cnt v) v).head? ≠ some 0 := by
  obtain ⟨h1, h2⟩ := cnt_bounds v hv
  cases hc : cnt v with
  | zero => omega
  | succ k =>
    rw [hc] at h1 h2
    simp only [low, List.head?_cons, ne_eq, Option.some.injEq]
    intro h0
    have := congrArg UInt8.toNat h0
    simp at this
    have hk : 256 ^ k ≤ v := by rcases h2 with h | h; omega; simpa using h
    have hp : 0 < 256 ^ k := Nat.pow_pos (by omega)
    have h3 := Nat.div_pos hk hp
    have h4 : v / 256 ^ k < 256 := by
      rw [Nat.div_lt_iff_lt_mul hp]; rw [Nat.pow_succ] at h1; omega
    omega

theorem take_num (v : Nat) (hv : v < 2 ^ 64) (more : List UInt8) : takeNumL (numL v ++ more) = (v, more, 0) := by
  have h8 := cnt_le v
  have hl := low_length (cnt v) v
  have hb := (cnt_bounds v hv).1
  rw [numL, List.cons_append, takeNumL, ofNat_cnt]
  rw [if_neg (by omega), if_neg (by simp [hl]), if_neg, List.take_append_of_le_length (by omega), List.drop_append_of_le_length (by omega),
    List.take_of_length_le (by omega), List.drop_of_length_le (by omega), val_low, Nat.mod_eq_of_lt hb]
  · simp
  · rintro ⟨h0, h⟩
    apply low_head v hv h0
    rw [← h]
    cases hc : low (cnt v) v with
    | nil => simp [hc] at hl; omega
    | cons a l => simp

theorem num_take (s : List UInt8) (y : Nat) (left : List UInt8) (h : takeNumL s = (y, left, 0)) : numL y ++ left = s ∧ y < 2 ^ 64 := by
  match s, h with
  | n :: r, h =>
    rw [takeNumL] at h
    by_cases h8 : 8 < n.toNat
    · rw [if_pos h8] at h; simp at h
    rw [if_neg h8] at h
    by_cases hl : r.length < n.toNat
    · rw [if_pos hl] at h; simp at h
    rw [if_neg hl] at h
    by_cases hh : 0 < n.toNat ∧ r.head? = some 0
    · rw [if_pos hh] at h; simp at h
    rw [if_neg hh] at h
    simp only [Prod.mk.injEq] at h
    obtain ⟨rfl, rfl, -⟩ := h
    have hlen : (r.take n.toNat).length = n.toNat := by simp; omega
    have hlt := val_lt (r.take n.toNat)
    rw [hlen] at hlt
    have hc : cnt (val (r.take n.toNat)) = n.toNat := by
      apply cnt_eq _ _ (by omega) ?_ hlt
      by_cases hn : n.toNat = 0
      · exact .inl hn
      · right
        cases hr : r.take n.toNat with
        | nil => rw [hr] at hlen; simp at hlen; omega
        | cons b l =>
          have hrh : r.head? = some b := by
            cases r with
            | nil => simp at hr
            | cons b' r' =>
              obtain ⟨m, hm⟩ := Nat.exists_eq_succ_of_ne_zero hn
              rw [hm, Nat.succ_eq_add_one, List.take_succ_cons] at hr
              simp at hr ⊢; exact hr.1
          have hb : b ≠ 0 := by
            intro hb; apply hh; rw [hrh, hb]; exact ⟨by omega, rfl⟩
          have hb' : 0 < b.toNat := by
            rcases Nat.eq_zero_or_pos b.toNat with h | h
            · exfalso; apply hb; apply UInt8.toNat_inj.1; simpa using h
            · exact h
          have hl' : l.length = n.toNat - 1 := by
            have := hlen; rw [hr] at this; simp at this; omega
          rw [val_cons, hl']
          have := Nat.le_mul_of_pos_left (256 ^ (n.toNat - 1)) hb'
          omega
    refine ⟨?_, ?_⟩
    · have e1 : low n.toNat (val (r.take n.toNat)) = r.take n.toNat := by
        have := low_val (r.take n.toNat); rwa [hlen] at this
      rw [numL, hc, e1, List.cons_append, List.take_append_drop]
      simp
    · have : 256 ^ n.toNat ≤ 256 ^ 8 := Nat.pow_le_pow_right (by omega) (by omega)
      have e : (256 : Nat) ^ 8 = 2 ^ 64 := by decide
      omega

theorem numL_inj (a b : Nat) (ha : a < 2 ^ 64) (hb : b < 2 ^ 64) : numL a = numL b ↔ a = b := by
  constructor
  · intro h
    have h1 := take_num a ha []
    rw [h, take_num b hb []] at h1
    simp at h1; exact h1.symm
  · rintro rfl; rfl

/-! ### Lengths, texts, rows -/
def lenL (n : Nat) : List UInt8 := if n ≤ 250 then [UInt8.ofNat n] else [251, UInt8.ofNat (n / 256), UInt8.ofNat (n % 256)]

/-- A length, what stands behind it, and the answer: whatever the bound. -/
def sizeL : List UInt8 → Nat × List UInt8 × Nat
  | [] => (0, [], 2)
  | n :: r => if n.toNat ≤ 250 then (n.toNat, r, 0) else if 251 < n.toNat then (0, [], 3) else
    match r with
    | a :: b :: r' => if 256 * a.toNat + b.toNat ≤ 250 then (0, [], 3) else (256 * a.toNat + b.toNat, r', 0)
    | _ => (0, [], 2)

/-- The same, at most so much. -/
def takeLenL (s : List UInt8) (most : Int) : Nat × List UInt8 × Nat :=
  if (sizeL s).2.2 ≠ 0 then (0, [], (sizeL s).2.2) else if most < (sizeL s).1 then (0, [], 4) else sizeL s

def textL (t : List UInt8) : List UInt8 × Nat := if 65535 < t.length then ([], 4) else (lenL t.length ++ t, 0)

def takeTextL (s : List UInt8) (most : Int) : List UInt8 × List UInt8 × Nat :=
  if (takeLenL s most).2.2 ≠ 0 then ([], [], (takeLenL s most).2.2)
  else if (takeLenL s most).2.1.length < (takeLenL s most).1 then ([], [], 2)
  else ((takeLenL s most).2.1.take (takeLenL s most).1, (takeLenL s most).2.1.drop (takeLenL s most).1, 0)

theorem size_len (n : Nat) (h : n ≤ 65535) (more : List UInt8) : sizeL (lenL n ++ more) = (n, more, 0) := by
  unfold lenL
  by_cases h1 : n ≤ 250
  · have e : (UInt8.ofNat n).toNat = n := by simp; omega
    rw [if_pos h1]
    simp only [List.cons_append, List.nil_append, sizeL]
    rw [if_pos (by omega), e]
  · have e1 : (UInt8.ofNat (n / 256)).toNat = n / 256 := by simp; omega
    have e2 : (UInt8.ofNat (n % 256)).toNat = n % 256 := by simp
    rw [if_neg h1]
    simp only [List.cons_append, List.nil_append, sizeL]
    rw [if_neg (by decide), if_neg (by decide), e1, e2, if_neg (by omega)]
    have : 256 * (n / 256) + n % 256 = n := by omega
    rw [this]

theorem takeLen_len (n : Nat) (h : n ≤ 65535) (most : Int) (hm : (n : Int) ≤ most) (more : List UInt8) : takeLenL (lenL n ++ more) most = (n, more, 0) := by
  simp only [takeLenL, size_len n h more]
  simp; omega

theorem takeText_text (t : List UInt8) (h : t.length ≤ 65535) (most : Int) (hm : (t.length : Int) ≤ most) (more : List UInt8) : takeTextL (lenL t.length ++ t ++ more) most = (t, more, 0) := by
  simp only [takeTextL, List.append_assoc, takeLen_len t.length h most hm]
  simp
/-- A row's texts, one behind the other. -/
def body : List (List UInt8) → List UInt8
  | [] => []
  | t :: r => lenL t.length ++ t ++ body r
def rowOk (ss : List (List UInt8)) : Bool := decide (ss.length ≤ 65535) && ss.all fun t => decide (t.length ≤ 65535)
def rowL (ss : List (List UInt8)) : List UInt8 × Nat := if rowOk ss = true then (lenL ss.length ++ body ss, 0) else ([], 4)

theorem body_append (a b : List (List UInt8)) : body (a ++ b) = body a ++ body b := by
  induction a with
  | nil => rfl
  | cons t a ih => simp [body, ih]
theorem body_snoc (a : List (List UInt8)) (t : List UInt8) : body (a ++ [t]) = body a ++ (lenL t.length ++ t) := by
  simp [body_append, body]
theorem lenL_le (n : Nat) : (lenL n).length ≤ 3 := by unfold lenL; split <;> simp
theorem lenL_pos (n : Nat) : 1 ≤ (lenL n).length := by unfold lenL; split <;> simp
theorem body_length (ss : List (List UInt8)) (h : ∀ t ∈ ss, t.length ≤ 65535) : (body ss).length ≤ ss.length * 65538 := by
  induction ss with
  | nil => simp [body]
  | cons t r ih =>
    have h1 := h t (by simp)
    have h2 := ih (fun x hx => h x (by simp [hx]))
    have h3 := lenL_le t.length
    simp [body]; omega
theorem rowOk_iff (ss : List (List UInt8)) : rowOk ss = true ↔ ss.length ≤ 65535 ∧ ∀ t ∈ ss, t.length ≤ 65535 := by
  simp [rowOk]
end Go.Proofs.Ytngllioidfffdaa.Lm
namespace Go.Proofs.Ytngllioidfffdaa.Lm
/-- n texts, one behind the other. -/
def takeN : Nat → List UInt8 → Int → List (List UInt8) × List UInt8 × Nat
  | 0, s, _ => ([], s, 0)
  | n + 1, s, most =>
    if (takeTextL s most).2.2 ≠ 0 then ([], [], (takeTextL s most).2.2)
    else if (takeN n (takeTextL s most).2.1 most).2.2 ≠ 0 then ([], [], (takeN n (takeTextL s most).2.1 most).2.2)
    else ((takeTextL s most).1 :: (takeN n (takeTextL s most).2.1 most).1, (takeN n (takeTextL s most).2.1 most).2.1, 0)
def takeRowL (s : List UInt8) (many most : Int) : List (List UInt8) × List UInt8 × Nat :=
  if (takeLenL s many).2.2 ≠ 0 then ([], [], (takeLenL s many).2.2) else takeN (takeLenL s many).1 (takeLenL s many).2.1 most
/-- What was taken ahead, and what is taken then. -/
def pre (l : List (List UInt8)) (x : List (List UInt8) × List UInt8 × Nat) : List (List UInt8) × List UInt8 × Nat :=
  if x.2.2 ≠ 0 then ([], [], x.2.2) else (l ++ x.1, x.2.1, 0)
theorem pre_nil (x : List (List UInt8) × List UInt8 × Nat) (h : x.2.2 ≠ 0 → x.1 = [] ∧ x.2.1 = []) : pre [] x = x := by
  obtain ⟨a, b, c⟩ := x
  unfold pre
  by_cases hc : c = 0
  · simp [hc]
  · have := h hc; simp at this; simp [hc, this]
theorem takeN_bad (n : Nat) (s : List UInt8) (most : Int) : (takeN n s most).2.2 ≠ 0 → (takeN n s most).1 = [] ∧ (takeN n s most).2.1 = [] := by
  cases n with
  | zero => simp [takeN]
  | succ n =>
    rw [takeN]
    split
    · simp
    · split
      · simp
      · simp
theorem pre_step_bad (l : List (List UInt8)) (n : Nat) (s : List UInt8) (most : Int) (h : (takeTextL s most).2.2 ≠ 0) : pre l (takeN (n + 1) s most) = ([], [], (takeTextL s most).2.2) := by
  rw [takeN, if_pos h, pre, if_pos h]
theorem pre_step_ok (l : List (List UInt8)) (n : Nat) (s : List UInt8) (most : Int) (h : (takeTextL s most).2.2 = 0) : pre l (takeN (n + 1) s most) = pre (l ++ [(takeTextL s most).1]) (takeN n (takeTextL s most).2.1 most) := by
  rw [takeN, if_neg (by omega)]
  by_cases h2 : (takeN n (takeTextL s most).2.1 most).2.2 = 0
  · rw [if_neg (by omega)]
    simp [pre, h2]
  · rw [if_pos h2]
    simp [pre, h2]
theorem takeN_body (ss : List (List UInt8)) (h : ∀ t ∈ ss, t.length ≤ 65535) (most : Int) (hm : 65535 ≤ most) (more : List UInt8) : takeN ss.length (body ss ++ more) most = (ss, more, 0) := by
  induction ss with
  | nil => simp [takeN, body]
  | cons t r ih =>
    have h1 := h t (by simp)
    have h2 := ih (fun x hx => h x (by simp [hx]))
    have h3 := takeText_text t h1 most (by omega) (body r ++ more)
    rw [List.length_cons, takeN, body, List.append_assoc, h3]
    simp [h2]
theorem takeRow_row (ss : List (List UInt8)) (h : rowOk ss = true) (more : List UInt8) : takeRowL (lenL ss.length ++ body ss ++ more) ss.length 65535 = (ss, more, 0) := by
  rw [rowOk_iff] at h
  unfold takeRowL
  rw [List.append_assoc, takeLen_len ss.length h.1 ss.length (Int.le_refl _)]
  simp [takeN_body ss h.2 65535 (Int.le_refl _) more]
theorem row_inj (a b : List (List UInt8)) (ha : rowOk a = true) (hb : rowOk b = true) : lenL a.length ++ body a = lenL b.length ++ body b ↔ a = b := by
  constructor
  · intro h
    have h1 := takeRow_row a ha []
    have h2 := takeRow_row b hb []
    simp only [List.append_nil] at h1 h2
    have e1 := size_len a.length ((rowOk_iff a).1 ha).1 (body a)
    have e2 := size_len b.length ((rowOk_iff b).1 hb).1 (body b)
    rw [h, e2] at e1
    simp only [Prod.mk.injEq] at e1
    rw [h, ← e1.1] at h1
    rw [h1] at h2
    simp only [Prod.mk.injEq] at h2
    exact h2.1
  · rintro rfl; rfl
/-! ### Of a row's bytes no beginning is one -/
theorem takeText_short (t : List UInt8) (h : t.length ≤ 65535) (c : Nat) (hc : c < (lenL t.length ++ t).length) (most : Int) (hm : 65535 ≤ most) : (takeTextL ((lenL t.length ++ t).take c) most).2.2 = 2 := by
  by_cases hc2 : (lenL t.length).length ≤ c
  · have e : (lenL t.length ++ t).take c = lenL t.length ++ t.take (c - (lenL t.length).length) := by
      rw [List.take_append, List.take_of_length_le hc2]
    rw [e]
    simp only [takeTextL, takeLen_len t.length h most (by omega)]
    simp only [List.length_append] at hc
    have : (t.take (c - (lenL t.length).length)).length < t.length := by simp; omega
    rw [if_neg (by simp), if_pos this]
  · have hsz : sizeL ((lenL t.length ++ t).take c) = (0, [], 2) := by
      rw [List.take_append_of_le_length (by omega)]
      unfold lenL at hc2 ⊢
      by_cases h1 : t.length ≤ 250
      · rw [if_pos h1] at hc2 ⊢
        have : c = 0 := by simp at hc2; exact hc2
        subst this; rfl
      · rw [if_neg h1] at hc2 ⊢
        have : c = 0 ∨ c = 1 ∨ c = 2 := by simp at hc2; omega
        rcases this with rfl | rfl | rfl
        · rfl
        · rfl
        · rfl
    simp [takeTextL, takeLenL, hsz]
theorem takeLen_short (n : Nat) (c : Nat) (hc : c < (lenL n).length) (most : Int) : takeLenL ((lenL n).take c) most = (0, [], 2) := by
  have hsz : sizeL ((lenL n).take c) = (0, [], 2) := by
    unfold lenL at hc ⊢
    by_cases h1 : n ≤ 250
    · rw [if_pos h1] at hc ⊢
      have : c = 0 := by simp at hc; exact hc
      subst this; rfl
    · rw [if_neg h1] at hc ⊢
      have : c = 0 ∨ c = 1 ∨ c = 2 := by simp at hc; omega
      rcases this with rfl | rfl | rfl
      · rfl
      · rfl
      · rfl
  simp [takeLenL, hsz]
theorem takeN_short (ss : List (List UInt8)) (h : ∀ t ∈ ss, t.length ≤ 65535) (c : Nat) (hc : c < (body ss).length) (most : Int) (hm : 65535 ≤ most) : (takeN ss.length ((body ss).take c) most).2.2 = 2 := by
  induction ss generalizing c with
  | nil => simp [body] at hc
  | cons t r ih =>
    have h1 := h t (by simp)
    rw [List.length_cons, takeN, body]
    by_cases hc2 : c < (lenL t.length ++ t).length
    · rw [List.take_append_of_le_length (by omega)]
      have h2 := takeText_short t h1 c hc2 most hm
      simp [h2]
    · have e : (lenL t.length ++ t ++ body r).take c = lenL t.length ++ t ++ (body r).take (c - (lenL t.length ++ t).length) := by
        rw [List.take_append, List.take_of_length_le (by omega)]
      rw [e, takeText_text t h1 most (by omega)]
      have hc' : c - (lenL t.length ++ t).length < (body r).length := by
        rw [body] at hc; simp only [List.length_append] at hc hc2 ⊢; omega
      have h3 := ih (fun x hx => h x (by simp [hx])) _ hc'
      simp only [h3]
      simp
theorem takeRow_short (ss : List (List UInt8)) (h : rowOk ss = true) (c : Nat) (hc : c < (lenL ss.length ++ body ss).length) : (takeRowL ((lenL ss.length ++ body ss).take c) ss.length 65535).2.2 = 2 := by
  rw [rowOk_iff] at h
  unfold takeRowL
  by_cases hc2 : c < (lenL ss.length).length
  · rw [List.take_append_of_le_length (by omega), takeLen_short ss.length c hc2]
    simp
  · have e : (lenL ss.length ++ body ss).take c = lenL ss.length ++ (body ss).take (c - (lenL ss.length).length) := by
      rw [List.take_append, List.take_of_length_le (by omega)]
    rw [e, takeLen_len ss.length h.1 ss.length (Int.le_refl _)]
    simp only [List.length_append] at hc
    have := takeN_short ss h.2 (c - (lenL ss.length).length) (by omega) 65535 (Int.le_refl _)
    simp [this]
theorem takeNum_short (v : Nat) (c : Nat) (hc : c < (numL v).length) : (takeNumL ((numL v).take c)).2.2 = 2 := by
  rw [numL_length] at hc
  unfold numL
  cases c with
  | zero => rfl
  | succ c =>
    rw [List.take_succ_cons, takeNumL, ofNat_cnt]
    have h8 := cnt_le v
    have hl : ((low (cnt v) v).take c).length < cnt v := by simp [low_length]; omega
    rw [if_neg (by omega), if_pos hl]
end Go.Proofs.Ytngllioidfffdaa.Lm
namespace Go.Proofs.Ytngllioidfffdaa
set_option maxRecDepth 100000
theorem sizeL_bd (l : List UInt8) : (Lm.sizeL l).1 ≤ 65535 ∧ (Lm.sizeL l).2.1.length ≤ l.length := by
  unfold Lm.sizeL
  split
  · simp
  · rename_i n r
    have := n.toNat_lt
    split
    · simp; omega
    · split
      · simp
      · split
        · rename_i a b r'
          have := a.toNat_lt
          have := b.toNat_lt
          split <;> simp <;> omega
        · simp
theorem takeLenL_bd (l : List UInt8) (most : Int) : (Lm.takeLenL l most).1 ≤ 65535 ∧ (Lm.takeLenL l most).2.1.length ≤ l.length := by
  have := sizeL_bd l
  unfold Lm.takeLenL
  split
  · simp
  · split
    · simp
    · exact this
theorem takeTextL_bd (l : List UInt8) (most : Int) : (Lm.takeTextL l most).1.length ≤ 65535 ∧ (Lm.takeTextL l most).2.1.length ≤ l.length := by
  have := takeLenL_bd l most
  unfold Lm.takeTextL
  split
  · simp
  · split
    · simp
    · simp; omega
end Go.Proofs.Ytngllioidfffdaa
namespace Go.Proofs.Ytngllioidfffdaa
set_option maxRecDepth 100000
set_option linter.unusedVariables false
/-- An event: kind, transaction, key, value. -/
abbrev Ev := Int × Int × List UInt8 × List UInt8
abbrev keyedE (k : Int) : Prop := k = 2 ∨ k = 3
abbrev mayE (x : Ev) : Prop := (1 ≤ x.1 ∧ x.1 ≤ 5 ∧ 1 ≤ x.2.1 ∧ x.2.1 ≤ 32) ∧ (if keyedE x.1 then (1 ≤ x.2.2.1.length ∧ x.2.2.1.length ≤ 32 ∧ x.2.2.2.length ≤ 32 ∧ (x.1 = 2 ∨ 1 ≤ x.2.2.2.length)) else (x.2.2.1 = [] ∧ x.2.2.2 = []))
def txtE (t : List UInt8) : List UInt8 := Lm.lenL t.length ++ t
/-- The bytes of an event that may be. -/
def bytE (x : Ev) : List UInt8 := UInt8.ofNat x.1.toNat :: UInt8.ofNat x.2.1.toNat :: (if keyedE x.1 then txtE x.2.2.1 ++ txtE x.2.2.2 else [])
def bytesE (x : Ev) : List UInt8 × Nat := if mayE x then (bytE x, 0) else ([], 1)
/-- The event of bytes. -/
def takeE (s : List UInt8) : Option Ev :=
  match s with
  | a :: b :: r =>
    if keyedE (a.toNat : Int) then
      if (Lm.takeTextL r 32).2.2 ≠ 0 then none
      else if (Lm.takeTextL (Lm.takeTextL r 32).2.1 32).2.2 ≠ 0 ∨ 0 < (Lm.takeTextL (Lm.takeTextL r 32).2.1 32).2.1.length then none
      else if mayE ((a.toNat : Int), (b.toNat : Int), (Lm.takeTextL r 32).1, (Lm.takeTextL (Lm.takeTextL r 32).2.1 32).1) then some ((a.toNat : Int), (b.toNat : Int), (Lm.takeTextL r 32).1, (Lm.takeTextL (Lm.takeTextL r 32).2.1 32).1) else none
    else if 0 < r.length ∨ ¬ mayE ((a.toNat : Int), (b.toNat : Int), [], []) then none else some ((a.toNat : Int), (b.toNat : Int), [], [])
  | _ => none
theorem size_take (s : List UInt8) (n : Nat) (r : List UInt8) (h : Lm.sizeL s = (n, r, 0)) : Lm.lenL n ++ r = s ∧ n ≤ 65535 := by
  unfold Lm.sizeL at h
  match s, h with
  | [], h => simp at h
  | c :: q, h =>
    simp only at h
    by_cases h1 : c.toNat ≤ 250
    · rw [if_pos h1] at h
      simp only [Prod.mk.injEq] at h
      obtain ⟨rfl, rfl, _⟩ := h
      unfold Lm.lenL
      rw [if_pos h1]
      exact ⟨by simp, by omega⟩
    · rw [if_neg h1] at h
      by_cases h2 : 251 < c.toNat
      · rw [if_pos h2] at h; simp at h
      · rw [if_neg h2] at h
        have hc : c = 251 := by apply UInt8.toNat_inj.1; show c.toNat = 251; omega
        match q, h with
        | [], h => simp at h
        | [_], h => simp at h
        | a :: b :: q', h =>
          simp only at h
          have ha := a.toNat_lt
          have hb := b.toNat_lt
          by_cases h3 : 256 * a.toNat + b.toNat ≤ 250
          · rw [if_pos h3] at h; simp at h
          · rw [if_neg h3] at h
            simp only [Prod.mk.injEq] at h
            obtain ⟨rfl, rfl, _⟩ := h
            unfold Lm.lenL
            rw [if_neg h3, hc]
            refine ⟨?_, by omega⟩
            have e1 : UInt8.ofNat ((256 * a.toNat + b.toNat) / 256) = a := by apply UInt8.toNat_inj.1; rw [UInt8.toNat_ofNat']; omega
            have e2 : UInt8.ofNat ((256 * a.toNat + b.toNat) % 256) = b := by apply UInt8.toNat_inj.1; rw [UInt8.toNat_ofNat']; omega
            rw [e1, e2]; rfl
theorem text_take (s t r : List UInt8) (most : Int) (h : Lm.takeTextL s most = (t, r, 0)) : Lm.lenL t.length ++ t ++ r = s ∧ t.length ≤ 65535 ∧ (t.length : Int) ≤ most := by
  unfold Lm.takeTextL at h
  by_cases h1 : (Lm.takeLenL s most).2.2 ≠ 0
  · rw [if_pos h1] at h; simp only [Prod.mk.injEq] at h; exact absurd h.2.2 h1
  · rw [if_neg h1] at h
    by_cases h2 : (Lm.takeLenL s most).2.1.length < (Lm.takeLenL s most).1
    · rw [if_pos h2] at h; simp at h
    · rw [if_neg h2] at h
      simp only [Prod.mk.injEq] at h
      obtain ⟨rfl, rfl, _⟩ := h
      have hL : Lm.takeLenL s most = Lm.sizeL s ∧ (Lm.sizeL s).2.2 = 0 ∧ ((Lm.sizeL s).1 : Int) ≤ most := by
        unfold Lm.takeLenL at h1 ⊢
        by_cases h3 : (Lm.sizeL s).2.2 ≠ 0
        · rw [if_pos h3] at h1; simp at h1; exact absurd h1 h3
        · rw [if_neg h3] at h1 ⊢
          by_cases h4 : most < (Lm.sizeL s).1
          · rw [if_pos h4] at h1; simp at h1
          · rw [if_neg h4]; exact ⟨rfl, by omega, by omega⟩
      rw [hL.1] at h2 ⊢
      have hz := size_take s (Lm.sizeL s).1 (Lm.sizeL s).2.1 (by rw [← hL.2.1])
      have hn : ((Lm.sizeL s).2.1.take (Lm.sizeL s).1).length = (Lm.sizeL s).1 := by rw [List.length_take]; omega
      rw [hn, List.append_assoc, List.take_append_drop]
      exact ⟨hz.1, hz.2, hL.2.2⟩
theorem txt_taken (t : List UInt8) (h : t.length ≤ 32) (r : List UInt8) : Lm.takeTextL (txtE t ++ r) 32 = (t, r, 0) := Lm.takeText_text t (by omega) 32 (by omega) r
theorem may_bytes (x : Ev) (h : mayE x) : (UInt8.ofNat x.1.toNat).toNat = x.1.toNat ∧ (UInt8.ofNat x.2.1.toNat).toNat = x.2.1.toNat ∧ ((x.1.toNat : Nat) : Int) = x.1 ∧ ((x.2.1.toNat : Nat) : Int) = x.2.1 := by
  obtain ⟨⟨h1, h2, h3, h4⟩, _⟩ := h
  refine ⟨?_, ?_, by omega, by omega⟩
  · simp; omega
  · simp; omega
/-- What was written is taken, with nothing behind. -/
theorem take_byt (x : Ev) (h : mayE x) (m : List UInt8) : takeE (bytE x ++ m) = if m = [] then some x else none := by
  obtain ⟨e1, e2, e3, e4⟩ := may_bytes x h
  have hx : x = (x.1, x.2.1, x.2.2.1, x.2.2.2) := rfl
  unfold bytE takeE
  by_cases hk : keyedE x.1
  · rw [if_pos hk]
    obtain ⟨h0, h5⟩ := h
    have h5' := h5
    rw [if_pos hk] at h5
    obtain ⟨k1, k2, k3, k4⟩ := h5
    simp only [List.cons_append, e1, e2, e3, e4]
    rw [if_pos hk, List.append_assoc, txt_taken x.2.2.1 k2]
    simp only
    rw [if_neg (by simp), txt_taken x.2.2.2 k3 m]
    simp only
    by_cases hm : m = []
    · subst hm
      rw [if_neg (by simp), if_pos ⟨h0, h5'⟩, if_pos rfl]
    · rw [if_pos (Or.inr (List.length_pos_iff.2 hm)), if_neg hm]
  · rw [if_neg hk]
    obtain ⟨h0, h5⟩ := h
    have h5' := h5
    rw [if_neg hk] at h5
    simp only [List.cons_append, List.nil_append, e1, e2, e3, e4]
    rw [if_neg hk]
    have ex : (x.1, x.2.1, ([] : List UInt8), ([] : List UInt8)) = x := by rw [hx]; simp only [h5.1, h5.2]
    by_cases hm : m = []
    · subst hm
      rw [if_neg (by intro hh; rcases hh with hh | hh; simp at hh; exact hh (by rw [ex]; exact ⟨h0, h5'⟩)), if_pos rfl, ex]
    · rw [if_pos (Or.inl (List.length_pos_iff.2 hm)), if_neg hm]
/-- What is taken may be, and is written by the same bytes. -/
theorem byt_take (s : List UInt8) (x : Ev) (h : takeE s = some x) : mayE x ∧ bytE x = s := by
  unfold takeE at h
  match s, h with
  | [], h => cases h
  | [_], h => cases h
  | a :: b :: r, h =>
    simp only at h
    by_cases hk : keyedE (a.toNat : Int)
    · rw [if_pos hk] at h
      by_cases h1 : (Lm.takeTextL r 32).2.2 ≠ 0
      · rw [if_pos h1] at h; cases h
      · rw [if_neg h1] at h
        by_cases h2 : (Lm.takeTextL (Lm.takeTextL r 32).2.1 32).2.2 ≠ 0 ∨ 0 < (Lm.takeTextL (Lm.takeTextL r 32).2.1 32).2.1.length
        · rw [if_pos h2] at h; cases h
        · rw [if_neg h2] at h
          by_cases h3 : mayE ((a.toNat : Int), (b.toNat : Int), (Lm.takeTextL r 32).1, (Lm.takeTextL (Lm.takeTextL r 32).2.1 32).1)
          · rw [if_pos h3] at h
            cases h
            refine ⟨h3, ?_⟩
            have t1 := text_take r (Lm.takeTextL r 32).1 (Lm.takeTextL r 32).2.1 32 (by rw [show (0 : Nat) = (Lm.takeTextL r 32).2.2 by omega])
            have t2 := text_take (Lm.takeTextL r 32).2.1 (Lm.takeTextL (Lm.takeTextL r 32).2.1 32).1 (Lm.takeTextL (Lm.takeTextL r 32).2.1 32).2.1 32 (by rw [show (0 : Nat) = (Lm.takeTextL (Lm.takeTextL r 32).2.1 32).2.2 by omega])
            have t3 : (Lm.takeTextL (Lm.takeTextL r 32).2.1 32).2.1 = [] := List.length_eq_zero_iff.1 (by omega)
            rw [t3, List.append_nil] at t2
            unfold bytE
            simp only
            rw [if_pos hk]
            have ea : UInt8.ofNat ((a.toNat : Int).toNat) = a := by simp
            have eb : UInt8.ofNat ((b.toNat : Int).toNat) = b := by simp
            rw [ea, eb]
            unfold txtE
            rw [t2.1, t1.1]
          · rw [if_neg h3] at h; cases h
    · rw [if_neg hk] at h
      by_cases h1 : 0 < r.length ∨ ¬ mayE ((a.toNat : Int), (b.toNat : Int), [], [])
      · rw [if_pos h1] at h; cases h
      · rw [if_neg h1] at h
        cases h
        have hm : mayE ((a.toNat : Int), (b.toNat : Int), [], []) := Classical.byContradiction fun hh => h1 (Or.inr hh)
        refine ⟨hm, ?_⟩
        have hr : r = [] := List.length_eq_zero_iff.1 (by omega)
        unfold bytE
        simp only
        rw [if_neg hk, hr]
        have ea : UInt8.ofNat ((a.toNat : Int).toNat) = a := by simp
        have eb : UInt8.ofNat ((b.toNat : Int).toNat) = b := by simp
        rw [ea, eb]
theorem byt_inj (x y : Ev) (hx : mayE x) (hy : mayE y) (h : bytE x = bytE y) : x = y := by
  have h1 := take_byt x hx []
  have h2 := take_byt y hy []
  rw [List.append_nil, if_pos rfl] at h1 h2
  rw [h, h2] at h1
  exact (Option.some.inj h1).symm
/-- Of what was written no beginning is taken. -/
theorem take_cut (x : Ev) (hx : mayE x) (c : Nat) (hc : c < (bytE x).length) : takeE ((bytE x).take c) = none := by
  cases hy : takeE ((bytE x).take c) with
  | none => rfl
  | some y =>
    obtain ⟨my, by'⟩ := byt_take _ y hy
    exfalso
    have h1 := take_byt y my ((bytE x).drop c)
    rw [by', List.take_append_drop] at h1
    have h2 := take_byt x hx []
    rw [List.append_nil, if_pos rfl] at h2
    rw [if_neg (by intro h; have := congrArg List.length h; rw [List.length_drop] at this; simp at this; omega)] at h1
    rw [h1] at h2
    cases h2
end Go.Proofs.Ytngllioidfffdaa
namespace Go.Proofs.Ytngllioidfffdaa.Lm
/-- The records that bytes begin with, and what stands behind them: at most so many. -/
def scanF : Nat → List UInt8 → List (List UInt8) × List UInt8
  | 0, s => ([], s)
  | n + 1, s => if (takeTextL s 65535).2.2 ≠ 0 then ([], s)
    else ((takeTextL s 65535).1 :: (scanF n (takeTextL s 65535).2.1).1, (scanF n (takeTextL s 65535).2.1).2)
def recsL (s : List UInt8) : List (List UInt8) := (scanF s.length s).1
def leftL (s : List UInt8) : List UInt8 := (scanF s.length s).2
theorem fits_form (s : List UInt8) (h : (takeTextL s 65535).2.2 = 0) : lenL (takeTextL s 65535).1.length ++ (takeTextL s 65535).1 ++ (takeTextL s 65535).2.1 = s ∧ (takeTextL s 65535).1.length ≤ 65535 := by
  have := text_take s (takeTextL s 65535).1 (takeTextL s 65535).2.1 65535 (by rw [← h])
  exact ⟨this.1, this.2.1⟩
theorem fits_less (s : List UInt8) (h : (takeTextL s 65535).2.2 = 0) : (takeTextL s 65535).2.1.length < s.length := by
  have h1 := (fits_form s h).1
  have h2 := congrArg List.length h1
  have h3 := lenL_pos (takeTextL s 65535).1.length
  simp only [List.length_append] at h2
  omega
theorem nil_no : (takeTextL [] 65535).2.2 ≠ 0 := by decide
/-- More fuel than bytes changes nothing. -/
theorem scan_more (n : Nat) (s : List UInt8) (h : s.length ≤ n) : scanF n s = scanF s.length s := by
  induction n using Nat.strongRecOn generalizing s with
  | ind n ih =>
    cases n with
    | zero =>
      have : s = [] := List.length_eq_zero_iff.1 (by omega)
      subst this; rfl
    | succ n =>
      by_cases ht : (takeTextL s 65535).2.2 = 0
      · have hl := fits_less s ht
        obtain ⟨m, hm⟩ : ∃ m, s.length = m + 1 := ⟨s.length - 1, by omega⟩
        rw [hm]
        simp only [scanF]
        rw [if_neg (by omega), if_neg (by omega)]
        rw [ih n (by omega) _ (by omega)]
        by_cases hmn : m = n
        · subst hmn; rw [ih m (by omega) _ (by omega)]
        · rw [ih m (by omega) _ (by omega)]
      · cases hs : s.length with
        | zero => simp only [scanF]; rw [if_pos ht]
        | succ m => simp only [scanF]; rw [if_pos ht, if_pos ht]
theorem recs_no (s : List UInt8) (h : (takeTextL s 65535).2.2 ≠ 0) : recsL s = [] ∧ leftL s = s := by
  unfold recsL leftL
  cases s.length with
  | zero => exact ⟨rfl, rfl⟩
  | succ m => simp only [scanF]; rw [if_pos h]; exact ⟨rfl, rfl⟩
theorem recs_yes (s : List UInt8) (h : (takeTextL s 65535).2.2 = 0) : recsL s = (takeTextL s 65535).1 :: recsL (takeTextL s 65535).2.1 ∧ leftL s = leftL (takeTextL s 65535).2.1 := by
  have hl := fits_less s h
  obtain ⟨m, hm⟩ : ∃ m, s.length = m + 1 := ⟨s.length - 1, by omega⟩
  unfold recsL leftL
  rw [hm]
  simp only [scanF]
  rw [if_neg (by omega), scan_more m _ (by omega)]
  exact ⟨rfl, rfl⟩
theorem scan_ind {P : List UInt8 → Prop} (h0 : ∀ s, (takeTextL s 65535).2.2 ≠ 0 → P s) (h1 : ∀ s, (takeTextL s 65535).2.2 = 0 → P (takeTextL s 65535).2.1 → P s) (s : List UInt8) : P s := by
  generalize hn : s.length = n
  induction n using Nat.strongRecOn generalizing s with
  | ind n ih =>
    by_cases h : (takeTextL s 65535).2.2 = 0
    · have hl := fits_less s h
      exact h1 s h (ih _ (by omega) _ rfl)
    · exact h0 s h
theorem scan_parts (s : List UInt8) : body (recsL s) ++ leftL s = s ∧ (∀ t ∈ recsL s, t.length ≤ 65535) ∧ (takeTextL (leftL s) 65535).2.2 ≠ 0 := by
  induction s using scan_ind with
  | h0 s h =>
    obtain ⟨h1, h2⟩ := recs_no s h
    rw [h1, h2]
    exact ⟨rfl, by simp, h⟩
  | h1 s h ih =>
    obtain ⟨h1, h2⟩ := recs_yes s h
    obtain ⟨h3, h4⟩ := fits_form s h
    rw [h1, h2]
    refine ⟨?_, ?_, ih.2.2⟩
    · rw [body, List.append_assoc, ih.1, h3]
    · intro t ht
      rcases List.mem_cons.1 ht with rfl | ht
      · exact h4
      · exact ih.2.1 t ht
theorem scan_body (l : List (List UInt8)) (hl : ∀ t ∈ l, t.length ≤ 65535) (s : List UInt8) : recsL (body l ++ s) = l ++ recsL s ∧ leftL (body l ++ s) = leftL s := by
  induction l with
  | nil => exact ⟨rfl, rfl⟩
  | cons t r ih =>
    have h1 := hl t (by simp)
    have h3 := takeText_text t h1 65535 (by omega) (body r ++ s)
    have h4 := ih (fun x hx => hl x (by simp [hx]))
    have e : body (t :: r) ++ s = lenL t.length ++ t ++ (body r ++ s) := by rw [body, List.append_assoc]
    rw [e]
    obtain ⟨h5, h6⟩ := recs_yes (lenL t.length ++ t ++ (body r ++ s)) (by rw [h3])
    rw [h5, h6, h3]
    exact ⟨by rw [h4.1]; rfl, h4.2⟩
theorem recs_body (l : List (List UInt8)) (hl : ∀ t ∈ l, t.length ≤ 65535) : recsL (body l) = l ∧ leftL (body l) = [] := by
  have := scan_body l hl []
  rw [List.append_nil] at this
  obtain ⟨h1, h2⟩ := recs_no [] nil_no
  rw [h1, h2, List.append_nil] at this
  exact this
/-- How many bytes are the records. -/
theorem recs_many (s : List UInt8) : (body (recsL s)).length ≤ s.length ∧ s.take (body (recsL s)).length = body (recsL s) ∧ (body (recsL s)).length = s.length - (leftL s).length := by
  have h := (scan_parts s).1
  have h2 := congrArg List.length h
  rw [List.length_append] at h2
  refine ⟨by omega, ?_, by omega⟩
  conv => lhs; arg 2; rw [← h]
  rw [List.take_left]
/-- A record's beginning is none. -/
theorem torn_no (t : List UInt8) (h : t.length ≤ 65535) (c : Nat) (hc : c < (lenL t.length ++ t).length) : recsL ((lenL t.length ++ t).take c) = [] := by
  have := takeText_short t h c hc 65535 (by omega)
  exact (recs_no _ (by omega)).1
/-- Of a beginning of records' bytes the records are a beginning. -/
theorem recs_cut (l : List (List UInt8)) (hl : ∀ t ∈ l, t.length ≤ 65535) (c : Nat) : recsL ((body l).take c) <+: l := by
  induction l generalizing c with
  | nil => rw [body, List.take_nil]; rw [(recs_no [] nil_no).1]; exact List.nil_prefix
  | cons t r ih =>
    have h1 := hl t (by simp)
    by_cases hc : c < (lenL t.length ++ t).length
    · rw [body, List.take_append_of_le_length (by omega), torn_no t h1 c hc]
      exact List.nil_prefix
    · have e : (body (t :: r)).take c = body [t] ++ (body r).take (c - (lenL t.length ++ t).length) := by
        rw [body, List.take_append, List.take_of_length_le (by omega)]; simp [body]
      rw [e, (scan_body [t] (by simpa using h1) _).1]
      exact (List.cons_prefix_cons).2 ⟨rfl, ih (fun x hx => hl x (by simp [hx])) _⟩
/-- Of bytes behind other ones. -/
theorem recs_join (a b : List UInt8) : recsL a <+: recsL (a ++ b) ∧ (body (recsL a)).length ≤ (body (recsL (a ++ b))).length ∧ (leftL a = [] → recsL (a ++ b) = recsL a ++ recsL b) := by
  obtain ⟨h1, h2, _⟩ := scan_parts a
  have h4 := (scan_body (recsL a) h2 (leftL a ++ b)).1
  rw [← List.append_assoc, h1] at h4
  refine ⟨?_, ?_, ?_⟩
  · rw [h4]; exact List.prefix_append _ _
  · rw [h4, body_append, List.length_append]; omega
  · intro h
    rw [h, List.nil_append] at h4
    exact h4
end Go.Proofs.Ytngllioidfffdaa.Lm
namespace Go.Proofs.Ytngllioidfffdaa.Lm
abbrev Itm := Int × List UInt8
def itm : Nat → List (List UInt8) → List Itm
  | _, [] => []
  | n, t :: r => (((n + (lenL t.length ++ t).length : Nat) : Int), t) :: itm (n + (lenL t.length ++ t).length) r
theorem itm_length (n : Nat) (l : List (List UInt8)) : (itm n l).length = l.length := by
  induction l generalizing n with
  | nil => rfl
  | cons t r ih => simp only [itm, List.length_cons, ih]
theorem itm_snd (n : Nat) (l : List (List UInt8)) : (itm n l).map (·.2) = l := by
  induction l generalizing n with
  | nil => rfl
  | cons t r ih => simp only [itm, List.map_cons, ih]
theorem itm_append (n : Nat) (a b : List (List UInt8)) : itm n (a ++ b) = itm n a ++ itm (n + (body a).length) b := by
  induction a generalizing n with
  | nil => simp [itm, body]
  | cons t r ih =>
    simp only [List.cons_append, itm, ih]
    congr 3
    simp only [body, List.length_append]
    omega
def lastI (pre : List Itm) : Int := pre.foldl (fun _ x => x.1) 0
theorem lastI_snoc (pre : List Itm) (x : Itm) : lastI (pre ++ [x]) = x.1 := by simp [lastI]
theorem body_one (a : List (List UInt8)) (t : List UInt8) : (body (a ++ [t])).length = (body a).length + (lenL t.length ++ t).length := by
  rw [body_append, List.length_append]; simp [body]
theorem lastI_itm (l : List (List UInt8)) : lastI (itm 0 l) = ((body l).length : Int) := by
  rcases List.eq_nil_or_concat l with rfl | ⟨a, t, rfl⟩
  · rfl
  · rw [List.concat_eq_append, itm_append]
    simp only [itm]
    rw [lastI_snoc, body_one]
    simp
theorem body_many (l : List (List UInt8)) : l.length ≤ (body l).length := by
  induction l with
  | nil => exact Nat.le_refl _
  | cons t r ih =>
    have := lenL_pos t.length
    simp only [body, List.length_append, List.length_cons]
    omega
theorem recs_few (s : List UInt8) : (recsL s).length ≤ s.length := Nat.le_trans (body_many _) (recs_many s).1
/-- How far a scan has come: what is read so far, what is left. -/
def At16 (s : List UInt8) (a : List (List UInt8)) (r : List UInt8) : Prop := body a ++ r = s ∧ recsL s = a ++ recsL r
theorem at_start (s : List UInt8) : At16 s [] s := ⟨rfl, rfl⟩
theorem at_next {s : List UInt8} {a : List (List UInt8)} {r : List UInt8} (h : At16 s a r) (ht : (takeTextL r 65535).2.2 = 0) : At16 s (a ++ [(takeTextL r 65535).1]) (takeTextL r 65535).2.1 ∧ (takeTextL r 65535).2.1.length < r.length ∧
    ((s.length : Int) - ((takeTextL r 65535).2.1.length : Int) = (((body a).length + (lenL (takeTextL r 65535).1.length ++ (takeTextL r 65535).1).length : Nat) : Int)) ∧ a.length < (recsL s).length := by
  obtain ⟨h1, h2⟩ := h
  have h3 := (fits_form r ht).1
  have h4 := (recs_yes r ht).1
  have h5 := fits_less r ht
  refine ⟨⟨?_, ?_⟩, h5, ?_, ?_⟩
  · rw [body_append, List.append_assoc, ← h1]
    congr 1
    simpa [body] using h3
  · rw [h2, h4, List.append_assoc]; rfl
  · have e1 := congrArg List.length h1
    have e2 := congrArg List.length h3
    simp only [List.length_append] at e1 e2 ⊢
    omega
  · rw [h2, h4]; simp
theorem at_end {s : List UInt8} {a : List (List UInt8)} {r : List UInt8} (h : At16 s a r) (ht : (takeTextL r 65535).2.2 ≠ 0) : recsL s = a := by
  rw [h.2, (recs_no r ht).1, List.append_nil]
theorem at_len {s : List UInt8} {a : List (List UInt8)} {r : List UInt8} (h : At16 s a r) : r.length ≤ s.length ∧ (body a).length = s.length - r.length ∧ a.length ≤ s.length := by
  have e1 := congrArg List.length h.1
  rw [List.length_append] at e1
  have := body_many a
  omega
end Go.Proofs.Ytngllioidfffdaa.Lm
