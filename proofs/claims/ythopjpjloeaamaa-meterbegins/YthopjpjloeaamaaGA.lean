/-
  Plain facts on numbers, texts and rows as bytes: no program in sight.
  Plain facts on rows of texts as bytes, and on what is taken from bytes: no program in sight.
  Roots, proofs and what they give away, in lists, over whatever sum: of no program.
  What follows of roots and proofs (P3.4), in lists, over whatever sum of 32 bytes: of no program.
  Two unlike rows of one root, two unlike texts at one place: what Differ and Clash give (P3.4), in lists, over whatever sum of 32 bytes: of no program.
  Inputs of a climb: how many, how long: of no program.
  How many sides a way has: of no program.
  The way of a place: its sides, from the leaf on: of no program.
  The proof of a place, by the sides of its way: of no program.
  A climb, by the sides of its way: of no program.
-/
namespace Go.Proofs.Ythopjpjloeaamaa.Lm

/-- How many bytes a number below 2^64 takes. -/
def cnt (v : Nat) : Nat :=
  if v = 0 then 0 else if v < 256 then 1 else if v < 65536 then 2 else if v < 16777216 then 3 else if v < 4294967296 then 4
  else if v < 1099511627776 then 5 else if v < 281474976710656 then 6 else if v < 72057594037927936 then 7 else 8

/-- The low k bytes of v, the highest first. -/
def low : Nat → Nat → List UInt8
  | 0, _ => []
  | k + 1, v => UInt8.ofNat (v / 256 ^ k) :: low k v

def numL (v : Nat) : List UInt8 := UInt8.ofNat (cnt v) :: low (cnt v) v

def val (l : List UInt8) : Nat := l.foldl (fun a b => 256 * a + b.toNat) 0

theorem low_length (k v : Nat) : (low k v).length = k := by
  induction k with
  | zero => rfl
  | succ k ih => simp [low, ih]

theorem foldl_val (l : List UInt8) (a : Nat) : l.foldl (fun a b => 256 * a + b.toNat) a = a * 256 ^ l.length + val l := by
  unfold val
  induction l generalizing a with
  | nil => simp
  | cons b l ih =>
    simp only [List.foldl_cons, List.length_cons]
    rw [ih, ih (256 * 0 + b.toNat)]
    rw [Nat.pow_succ]
    generalize 256 ^ l.length = p
    have : (256 * a + b.toNat) * p = a * (p * 256) + b.toNat * p := by
      rw [Nat.add_mul, Nat.mul_comm 256 a, Nat.mul_assoc, Nat.mul_comm 256 p]
    rw [this]; simp; omega

theorem val_cons (b : UInt8) (l : List UInt8) : val (b :: l) = b.toNat * 256 ^ l.length + val l := by
  rw [val, List.foldl_cons, foldl_val]; simp

theorem val_snoc (l : List UInt8) (b : UInt8) : val (l ++ [b]) = 256 * val l + b.toNat := by
  simp [val, List.foldl_append]

theorem val_lt (l : List UInt8) : val l < 256 ^ l.length := by
  induction l with
  | nil => simp [val]
  | cons b l ih =>
    rw [val_cons, List.length_cons, Nat.pow_succ]
    have hb : b.toNat < 256 := b.toNat_lt
    have : b.toNat * 256 ^ l.length ≤ 255 * 256 ^ l.length := Nat.mul_le_mul_right _ (by omega)
    omega

theorem val_low (k v : Nat) : val (low k v) = v % 256 ^ k := by
  induction k with
  | zero => simp [low, val, Nat.mod_one]
  | succ k ih =>
    rw [low, val_cons, low_length, ih]
    have h : (UInt8.ofNat (v / 256 ^ k)).toNat = v / 256 ^ k % 256 := by simp
    rw [h, Nat.pow_succ, Nat.mod_mul, Nat.mul_comm]; omega

theorem low_val (l : List UInt8) : low l.length (val l) = l := by
  induction l with
  | nil => rfl
  | cons b l ih =>
    have hlt := val_lt l
    rw [List.length_cons, low, val_cons]
    have hp : 0 < 256 ^ l.length := Nat.pow_pos (by omega)
    have h1 : (b.toNat * 256 ^ l.length + val l) / 256 ^ l.length = b.toNat := by
      rw [Nat.add_comm, Nat.add_mul_div_right _ _ hp, Nat.div_eq_of_lt hlt]; omega
    rw [h1]
    have h2 : ∀ k v w, v % 256 ^ k = w % 256 ^ k → low k v = low k w := by
      intro k
      induction k with
      | zero => intros; rfl
      | succ k ihk =>
        intro v w h
        have e1 : v / 256 ^ k % 256 = w / 256 ^ k % 256 := by
          rw [← Nat.mod_mul_right_div_self, ← Nat.mod_mul_right_div_self, ← Nat.pow_succ, h]
        have e2 : v % 256 ^ k = w % 256 ^ k := by
          have := congrArg (· % 256 ^ k) h
          simp only [Nat.pow_succ, Nat.mod_mul_right_mod] at this
          exact this
        rw [low, low, ihk _ _ e2]
        congr 1
        apply UInt8.toNat_inj.1
        simpa using e1
    rw [h2 l.length (b.toNat * 256 ^ l.length + val l) (val l) (by rw [Nat.mul_add_mod_self_right]), ih]
    congr 1
    simp

theorem cnt_le (v : Nat) : cnt v ≤ 8 := by unfold cnt; (repeat' split) <;> omega

theorem cnt_eq (v k : Nat) (hk : k ≤ 8) (h1 : k = 0 ∨ 256 ^ (k - 1) ≤ v) (h2 : v < 256 ^ k) : cnt v = k := by
  have hk' : k = 0 ∨ k = 1 ∨ k = 2 ∨ k = 3 ∨ k = 4 ∨ k = 5 ∨ k = 6 ∨ k = 7 ∨ k = 8 := by omega
  unfold cnt
  rcases hk' with rfl | rfl | rfl | rfl | rfl | rfl | rfl | rfl | rfl <;> simp at h1 h2 <;> (repeat' split) <;> omega

theorem cnt_bounds (v : Nat) (hv : v < 2 ^ 64) : v < 256 ^ cnt v ∧ (cnt v = 0 ∨ 256 ^ (cnt v - 1) ≤ v) := by
  have key : ∀ k, k ≤ 8 → (k = 0 ∨ 256 ^ (k - 1) ≤ v) → v < 256 ^ k → v < 256 ^ cnt v ∧ (cnt v = 0 ∨ 256 ^ (cnt v - 1) ≤ v) := by
    intro k hk h1 h2
    rw [cnt_eq v k hk h1 h2]; exact ⟨h2, h1⟩
  by_cases h0 : v < 1
  · exact key 0 (by omega) (.inl rfl) (by have e : (256 : Nat) ^ 0 = 1 := (by decide); omega)
  by_cases h1 : v < 256
  · exact key 1 (by omega) (.inr (by have e : (256 : Nat) ^ (1 - 1) = 1 := (by decide); omega)) (by have e : (256 : Nat) ^ 1 = 256 := (by decide); omega)
  by_cases h2 : v < 65536
  · exact key 2 (by omega) (.inr (by have e : (256 : Nat) ^ (2 - 1) = 256 := (by decide); omega)) (by have e : (256 : Nat) ^ 2 = 65536 := (by decide); omega)
  by_cases h3 : v < 16777216
  · exact key 3 (by omega) (.inr (by have e : (256 : Nat) ^ (3 - 1) = 65536 := (by decide); omega)) (by have e : (256 : Nat) ^ 3 = 16777216 := (by decide); omega)
  by_cases h4 : v < 4294967296
  · exact key 4 (by omega) (.inr (by have e : (256 : Nat) ^ (4 - 1) = 16777216 := (by decide); omega)) (by have e : (256 : Nat) ^ 4 = 4294967296 := (by decide); omega)
  by_cases h5 : v < 1099511627776
  · exact key 5 (by omega) (.inr (by have e : (256 : Nat) ^ (5 - 1) = 4294967296 := (by decide); omega)) (by have e : (256 : Nat) ^ 5 = 1099511627776 := (by decide); omega)
  by_cases h6 : v < 281474976710656
  · exact key 6 (by omega) (.inr (by have e : (256 : Nat) ^ (6 - 1) = 1099511627776 := (by decide); omega)) (by have e : (256 : Nat) ^ 6 = 281474976710656 := (by decide); omega)
  by_cases h7 : v < 72057594037927936
  · exact key 7 (by omega) (.inr (by have e : (256 : Nat) ^ (7 - 1) = 281474976710656 := (by decide); omega)) (by have e : (256 : Nat) ^ 7 = 72057594037927936 := (by decide); omega)
  exact key 8 (by omega) (.inr (by have e : (256 : Nat) ^ (8 - 1) = 72057594037927936 := (by decide); omega)) (by have e : (256 : Nat) ^ 8 = 2 ^ 64 := (by decide); omega)

theorem cnt_mono (a b : Nat) (hb : b < 2 ^ 64) (h : a ≤ b) : cnt a ≤ cnt b := by
  obtain ⟨h1, h2⟩ := cnt_bounds a (by omega)
  obtain ⟨h3, h4⟩ := cnt_bounds b hb
  rcases Nat.lt_or_ge (cnt b) (cnt a) with h' | h'
  · have : 256 ^ cnt b ≤ 256 ^ (cnt a - 1) := Nat.pow_le_pow_right (by omega) (by omega)
    omega
  · exact h'

/-- The count, as a loop meets it. -/
theorem cnt_of_loop (v k : Nat) (hv : v < 2 ^ 64) (h1 : k = 0 ∨ 0 < v / 256 ^ (k - 1)) (h2 : v / 256 ^ k = 0) : k = cnt v := by
  have hp : ∀ j, 0 < 256 ^ j := fun j => Nat.pow_pos (by omega)
  have h2' : v < 256 ^ k := by
    rcases Nat.lt_or_ge v (256 ^ k) with h | h
    · exact h
    · have := Nat.div_pos h (hp k); omega
  have h1' : k = 0 ∨ 256 ^ (k - 1) ≤ v := by
    rcases h1 with h | h
    · exact .inl h
    · right
      rcases Nat.lt_or_ge v (256 ^ (k - 1)) with h' | h'
      · rw [Nat.div_eq_of_lt h'] at h; omega
      · exact h'
  have hk : k ≤ 8 := by
    rcases h1' with h | h
    · omega
    · rcases Nat.lt_or_ge 8 k with h8 | h8
      · have : 256 ^ 8 ≤ 256 ^ (k - 1) := Nat.pow_le_pow_right (by omega) (by omega)
        have e : (256 : Nat) ^ 8 = 2 ^ 64 := by decide
        omega
      · exact h8
  exact (cnt_eq v k hk h1' h2').symm

theorem loop_le (v k : Nat) (hv : v < 2 ^ 64) (h : 0 < v / 256 ^ k) : k < 8 := by
  rcases Nat.lt_or_ge k 8 with h8 | h8
  · exact h8
  · have h1 : 256 ^ 8 ≤ 256 ^ k := Nat.pow_le_pow_right (by omega) h8
    have e : (256 : Nat) ^ 8 = 2 ^ 64 := by decide
    rw [Nat.div_eq_of_lt (by omega)] at h; omega

def takeNumL : List UInt8 → Nat × List UInt8 × Nat
  | [] => (0, [], 2)
  | n :: r => if 8 < n.toNat then (0, [], 3) else if r.length < n.toNat then (0, [], 2) else if 0 < n.toNat ∧ r.head? = some 0 then (0, [], 3)
    else (val (r.take n.toNat), r.drop n.toNat, 0)

theorem numL_length (v : Nat) : (numL v).length = cnt v + 1 := by simp [numL, low_length]

theorem ofNat_cnt (v : Nat) : (UInt8.ofNat (cnt v)).toNat = cnt v := by
  have := cnt_le v
  rw [UInt8.toNat_ofNat']; omega

theorem low_head (v : Nat) (hv : v < 2 ^ 64) (h : 0 < cnt v) : (low (cnt v) v).head? ≠ some 0 := by
  obtain ⟨h1, h2⟩ := cnt_bounds v hv
  cases hc : cnt v with
  | zero => omega
  | succ k =>
    rw [hc] at h1 h2
    simp only [low, List.head?_cons, ne_eq, Option.some.injEq]
    intro h0
    have := congrArg UInt8.toNat h0
    simp at this
    have hk : 256 ^ k ≤ v := by rcases h2 with h | h; omega; simpa using h
    have hp : 0 < 256 ^ k := Nat.pow_pos (by omega)
    have h3 := Nat.div_pos hk hp
    have h4 : v / 256 ^ k < 256 := by
      rw [Nat.div_lt_iff_lt_mul hp]; rw [Nat.pow_succ] at h1; omega
    omega

theorem take_num (v : Nat) (hv : v < 2 ^ 64) (more : List UInt8) : takeNumL (numL v ++ more) = (v, more, 0) := by
  have h8 := cnt_le v
  have hl := low_length (cnt v) v
  have hb := (cnt_bounds v hv).1
  rw [numL, List.cons_append, takeNumL, ofNat_cnt]
  rw [if_neg (by omega), if_neg (by simp [hl]), if_neg, List.take_append_of_le_length (by omega), List.drop_append_of_le_length (by omega),
    List.take_of_length_le (by omega), List.drop_of_length_le (by omega), val_low, Nat.mod_eq_of_lt hb]
  · simp
  · rintro ⟨h0, h⟩
    apply low_head v hv h0
    rw [← h]
    cases hc : low (cnt v) v with
    | nil => simp [hc] at hl; omega
    | cons a l => simp

theorem num_take (s : List UInt8) (y : Nat) (left : List UInt8) (h : takeNumL s = (y, left, 0)) : numL y ++ left = s ∧ y < 2 ^ 64 := by
  match s, h with
  | n :: r, h =>
    rw [takeNumL] at h
    by_cases h8 : 8 < n.toNat
    · rw [if_pos h8] at h; simp at h
    rw [if_neg h8] at h
    by_cases hl : r.length < n.toNat
    · rw [if_pos hl] at h; simp at h
    rw [if_neg hl] at h
    by_cases hh : 0 < n.toNat ∧ r.head? = some 0
    · rw [if_pos hh] at h; simp at h
    rw [if_neg hh] at h
    simp only [Prod.mk.injEq] at h
    obtain ⟨rfl, rfl, -⟩ := h
    have hlen : (r.take n.toNat).length = n.toNat := by simp; omega
    have hlt := val_lt (r.take n.toNat)
    rw [hlen] at hlt
    have hc : cnt (val (r.take n.toNat)) = n.toNat := by
      apply cnt_eq _ _ (by omega) ?_ hlt
      by_cases hn : n.toNat = 0
      · exact .inl hn
      · right
        cases hr : r.take n.toNat with
        | nil => rw [hr] at hlen; simp at hlen; omega
        | cons b l =>
          have hrh : r.head? = some b := by
            cases r with
            | nil => simp at hr
            | cons b' r' =>
              obtain ⟨m, hm⟩ := Nat.exists_eq_succ_of_ne_zero hn
              rw [hm, Nat.succ_eq_add_one, List.take_succ_cons] at hr
              simp at hr ⊢; exact hr.1
          have hb : b ≠ 0 := by
            intro hb; apply hh; rw [hrh, hb]; exact ⟨by omega, rfl⟩
          have hb' : 0 < b.toNat := by
            rcases Nat.eq_zero_or_pos b.toNat with h | h
            · exfalso; apply hb; apply UInt8.toNat_inj.1; simpa using h
            · exact h
          have hl' : l.length = n.toNat - 1 := by
            have := hlen; rw [hr] at this; simp at this; omega
          rw [val_cons, hl']
          have := Nat.le_mul_of_pos_left (256 ^ (n.toNat - 1)) hb'
          omega
    refine ⟨?_, ?_⟩
    · have e1 : low n.toNat (val (r.take n.toNat)) = r.take n.toNat := by
        have := low_val (r.take n.toNat); rwa [hlen] at this
      rw [numL, hc, e1, List.cons_append, List.take_append_drop]
      simp
    · have : 256 ^ n.toNat ≤ 256 ^ 8 := Nat.pow_le_pow_right (by omega) (by omega)
      have e : (256 : Nat) ^ 8 = 2 ^ 64 := by decide
      omega

theorem numL_inj (a b : Nat) (ha : a < 2 ^ 64) (hb : b < 2 ^ 64) : numL a = numL b ↔ a = b := by
  constructor
  · intro h
    have h1 := take_num a ha []
    rw [h, take_num b hb []] at h1
    simp at h1; exact h1.symm
  · rintro rfl; rfl

/-! ### Lengths, texts, rows -/
def lenL (n : Nat) : List UInt8 := if n ≤ 250 then [UInt8.ofNat n] else [251, UInt8.ofNat (n / 256), UInt8.ofNat (n % 256)]

/-- A length, what stands behind it, and the answer: whatever the bound. -/
def sizeL : List UInt8 → Nat × List UInt8 × Nat
  | [] => (0, [], 2)
  | n :: r => if n.toNat ≤ 250 then (n.toNat, r, 0) else if 251 < n.toNat then (0, [], 3) else
    match r with
    | a :: b :: r' => if 256 * a.toNat + b.toNat ≤ 250 then (0, [], 3) else (256 * a.toNat + b.toNat, r', 0)
    | _ => (0, [], 2)

/-- The same, at most so much. -/
def takeLenL (s : List UInt8) (most : Int) : Nat × List UInt8 × Nat :=
  if (sizeL s).2.2 ≠ 0 then (0, [], (sizeL s).2.2) else if most < (sizeL s).1 then (0, [], 4) else sizeL s

def textL (t : List UInt8) : List UInt8 × Nat := if 65535 < t.length then ([], 4) else (lenL t.length ++ t, 0)

def takeTextL (s : List UInt8) (most : Int) : List UInt8 × List UInt8 × Nat :=
  if (takeLenL s most).2.2 ≠ 0 then ([], [], (takeLenL s most).2.2)
  else if (takeLenL s most).2.1.length < (takeLenL s most).1 then ([], [], 2)
  else ((takeLenL s most).2.1.take (takeLenL s most).1, (takeLenL s most).2.1.drop (takeLenL s most).1, 0)

theorem size_len (n : Nat) (h : n ≤ 65535) (more : List UInt8) : sizeL (lenL n ++ more) = (n, more, 0) := by
  unfold lenL
  by_cases h1 : n ≤ 250
  · have e : (UInt8.ofNat n).toNat = n := by simp; omega
    rw [if_pos h1]
    simp only [List.cons_append, List.nil_append, sizeL]
    rw [if_pos (by omega), e]
  · have e1 : (UInt8.ofNat (n / 256)).toNat = n / 256 := by simp; omega
    have e2 : (UInt8.ofNat (n % 256)).toNat = n % 256 := by simp
    rw [if_neg h1]
    simp only [List.cons_append, List.nil_append, sizeL]
    rw [if_neg (by decide), if_neg (by decide), e1, e2, if_neg (by omega)]
    have : 256 * (n / 256) + n % 256 = n := by omega
    rw [this]

theorem takeLen_len (n : Nat) (h : n ≤ 65535) (most : Int) (hm : (n : Int) ≤ most) (more : List UInt8) : takeLenL (lenL n ++ more) most = (n, more, 0) := by
  simp only [takeLenL, size_len n h more]
  simp; omega

theorem takeText_text (t : List UInt8) (h : t.length ≤ 65535) (most : Int) (hm : (t.length : Int) ≤ most) (more : List UInt8) : takeTextL (lenL t.length ++ t ++ more) most = (t, more, 0) := by
  simp only [takeTextL, List.append_assoc, takeLen_len t.length h most hm]
  simp
/-- A row's texts, one behind the other. -/
def body : List (List UInt8) → List UInt8
  | [] => []
  | t :: r => lenL t.length ++ t ++ body r
def rowOk (ss : List (List UInt8)) : Bool := decide (ss.length ≤ 65535) && ss.all fun t => decide (t.length ≤ 65535)
def rowL (ss : List (List UInt8)) : List UInt8 × Nat := if rowOk ss = true then (lenL ss.length ++ body ss, 0) else ([], 4)

theorem body_append (a b : List (List UInt8)) : body (a ++ b) = body a ++ body b := by
  induction a with
  | nil => rfl
  | cons t a ih => simp [body, ih]
theorem body_snoc (a : List (List UInt8)) (t : List UInt8) : body (a ++ [t]) = body a ++ (lenL t.length ++ t) := by
  simp [body_append, body]
theorem lenL_le (n : Nat) : (lenL n).length ≤ 3 := by unfold lenL; split <;> simp
theorem lenL_pos (n : Nat) : 1 ≤ (lenL n).length := by unfold lenL; split <;> simp
theorem body_length (ss : List (List UInt8)) (h : ∀ t ∈ ss, t.length ≤ 65535) : (body ss).length ≤ ss.length * 65538 := by
  induction ss with
  | nil => simp [body]
  | cons t r ih =>
    have h1 := h t (by simp)
    have h2 := ih (fun x hx => h x (by simp [hx]))
    have h3 := lenL_le t.length
    simp [body]; omega
theorem rowOk_iff (ss : List (List UInt8)) : rowOk ss = true ↔ ss.length ≤ 65535 ∧ ∀ t ∈ ss, t.length ≤ 65535 := by
  simp [rowOk]
end Go.Proofs.Ythopjpjloeaamaa.Lm
namespace Go.Proofs.Ythopjpjloeaamaa.Lm
/-- n texts, one behind the other. -/
def takeN : Nat → List UInt8 → Int → List (List UInt8) × List UInt8 × Nat
  | 0, s, _ => ([], s, 0)
  | n + 1, s, most =>
    if (takeTextL s most).2.2 ≠ 0 then ([], [], (takeTextL s most).2.2)
    else if (takeN n (takeTextL s most).2.1 most).2.2 ≠ 0 then ([], [], (takeN n (takeTextL s most).2.1 most).2.2)
    else ((takeTextL s most).1 :: (takeN n (takeTextL s most).2.1 most).1, (takeN n (takeTextL s most).2.1 most).2.1, 0)
def takeRowL (s : List UInt8) (many most : Int) : List (List UInt8) × List UInt8 × Nat :=
  if (takeLenL s many).2.2 ≠ 0 then ([], [], (takeLenL s many).2.2) else takeN (takeLenL s many).1 (takeLenL s many).2.1 most
/-- What was taken ahead, and what is taken then. -/
def pre (l : List (List UInt8)) (x : List (List UInt8) × List UInt8 × Nat) : List (List UInt8) × List UInt8 × Nat :=
  if x.2.2 ≠ 0 then ([], [], x.2.2) else (l ++ x.1, x.2.1, 0)
theorem pre_nil (x : List (List UInt8) × List UInt8 × Nat) (h : x.2.2 ≠ 0 → x.1 = [] ∧ x.2.1 = []) : pre [] x = x := by
  obtain ⟨a, b, c⟩ := x
  unfold pre
  by_cases hc : c = 0
  · simp [hc]
  · have := h hc; simp at this; simp [hc, this]
theorem takeN_bad (n : Nat) (s : List UInt8) (most : Int) : (takeN n s most).2.2 ≠ 0 → (takeN n s most).1 = [] ∧ (takeN n s most).2.1 = [] := by
  cases n with
  | zero => simp [takeN]
  | succ n =>
    rw [takeN]
    split
    · simp
    · split
      · simp
      · simp
theorem pre_step_bad (l : List (List UInt8)) (n : Nat) (s : List UInt8) (most : Int) (h : (takeTextL s most).2.2 ≠ 0) : pre l (takeN (n + 1) s most) = ([], [], (takeTextL s most).2.2) := by
  rw [takeN, if_pos h, pre, if_pos h]
theorem pre_step_ok (l : List (List UInt8)) (n : Nat) (s : List UInt8) (most : Int) (h : (takeTextL s most).2.2 = 0) : pre l (takeN (n + 1) s most) = pre (l ++ [(takeTextL s most).1]) (takeN n (takeTextL s most).2.1 most) := by
  rw [takeN, if_neg (by omega)]
  by_cases h2 : (takeN n (takeTextL s most).2.1 most).2.2 = 0
  · rw [if_neg (by omega)]
    simp [pre, h2]
  · rw [if_pos h2]
    simp [pre, h2]
theorem takeN_body (ss : List (List UInt8)) (h : ∀ t ∈ ss, t.length ≤ 65535) (most : Int) (hm : 65535 ≤ most) (more : List UInt8) : takeN ss.length (body ss ++ more) most = (ss, more, 0) := by
  induction ss with
  | nil => simp [takeN, body]
  | cons t r ih =>
    have h1 := h t (by simp)
    have h2 := ih (fun x hx => h x (by simp [hx]))
    have h3 := takeText_text t h1 most (by omega) (body r ++ more)
    rw [List.length_cons, takeN, body, List.append_assoc, h3]
    simp [h2]
theorem takeRow_row (ss : List (List UInt8)) (h : rowOk ss = true) (more : List UInt8) : takeRowL (lenL ss.length ++ body ss ++ more) ss.length 65535 = (ss, more, 0) := by
  rw [rowOk_iff] at h
  unfold takeRowL
  rw [List.append_assoc, takeLen_len ss.length h.1 ss.length (Int.le_refl _)]
  simp [takeN_body ss h.2 65535 (Int.le_refl _) more]
theorem row_inj (a b : List (List UInt8)) (ha : rowOk a = true) (hb : rowOk b = true) : lenL a.length ++ body a = lenL b.length ++ body b ↔ a = b := by
  constructor
  · intro h
    have h1 := takeRow_row a ha []
    have h2 := takeRow_row b hb []
    simp only [List.append_nil] at h1 h2
    have e1 := size_len a.length ((rowOk_iff a).1 ha).1 (body a)
    have e2 := size_len b.length ((rowOk_iff b).1 hb).1 (body b)
    rw [h, e2] at e1
    simp only [Prod.mk.injEq] at e1
    rw [h, ← e1.1] at h1
    rw [h1] at h2
    simp only [Prod.mk.injEq] at h2
    exact h2.1
  · rintro rfl; rfl
/-! ### Of a row's bytes no beginning is one -/
theorem takeText_short (t : List UInt8) (h : t.length ≤ 65535) (c : Nat) (hc : c < (lenL t.length ++ t).length) (most : Int) (hm : 65535 ≤ most) : (takeTextL ((lenL t.length ++ t).take c) most).2.2 = 2 := by
  by_cases hc2 : (lenL t.length).length ≤ c
  · have e : (lenL t.length ++ t).take c = lenL t.length ++ t.take (c - (lenL t.length).length) := by
      rw [List.take_append, List.take_of_length_le hc2]
    rw [e]
    simp only [takeTextL, takeLen_len t.length h most (by omega)]
    simp only [List.length_append] at hc
    have : (t.take (c - (lenL t.length).length)).length < t.length := by simp; omega
    rw [if_neg (by simp), if_pos this]
  · have hsz : sizeL ((lenL t.length ++ t).take c) = (0, [], 2) := by
      rw [List.take_append_of_le_length (by omega)]
      unfold lenL at hc2 ⊢
      by_cases h1 : t.length ≤ 250
      · rw [if_pos h1] at hc2 ⊢
        have : c = 0 := by simp at hc2; exact hc2
        subst this; rfl
      · rw [if_neg h1] at hc2 ⊢
        have : c = 0 ∨ c = 1 ∨ c = 2 := by simp at hc2; omega
        rcases this with rfl | rfl | rfl
        · rfl
        · rfl
        · rfl
    simp [takeTextL, takeLenL, hsz]
theorem takeLen_short (n : Nat) (c : Nat) (hc : c < (lenL n).length) (most : Int) : takeLenL ((lenL n).take c) most = (0, [], 2) := by
  have hsz : sizeL ((lenL n).take c) = (0, [], 2) := by
    unfold lenL at hc ⊢
    by_cases h1 : n ≤ 250
    · rw [if_pos h1] at hc ⊢
      have : c = 0 := by simp at hc; exact hc
      subst this; rfl
    · rw [if_neg h1] at hc ⊢
      have : c = 0 ∨ c = 1 ∨ c = 2 := by simp at hc; omega
      rcases this with rfl | rfl | rfl
      · rfl
      · rfl
      · rfl
  simp [takeLenL, hsz]
theorem takeN_short (ss : List (List UInt8)) (h : ∀ t ∈ ss, t.length ≤ 65535) (c : Nat) (hc : c < (body ss).length) (most : Int) (hm : 65535 ≤ most) : (takeN ss.length ((body ss).take c) most).2.2 = 2 := by
  induction ss generalizing c with
  | nil => simp [body] at hc
  | cons t r ih =>
    have h1 := h t (by simp)
    rw [List.length_cons, takeN, body]
    by_cases hc2 : c < (lenL t.length ++ t).length
    · rw [List.take_append_of_le_length (by omega)]
      have h2 := takeText_short t h1 c hc2 most hm
      simp [h2]
    · have e : (lenL t.length ++ t ++ body r).take c = lenL t.length ++ t ++ (body r).take (c - (lenL t.length ++ t).length) := by
        rw [List.take_append, List.take_of_length_le (by omega)]
      rw [e, takeText_text t h1 most (by omega)]
      have hc' : c - (lenL t.length ++ t).length < (body r).length := by
        rw [body] at hc; simp only [List.length_append] at hc hc2 ⊢; omega
      have h3 := ih (fun x hx => h x (by simp [hx])) _ hc'
      simp only [h3]
      simp
theorem takeRow_short (ss : List (List UInt8)) (h : rowOk ss = true) (c : Nat) (hc : c < (lenL ss.length ++ body ss).length) : (takeRowL ((lenL ss.length ++ body ss).take c) ss.length 65535).2.2 = 2 := by
  rw [rowOk_iff] at h
  unfold takeRowL
  by_cases hc2 : c < (lenL ss.length).length
  · rw [List.take_append_of_le_length (by omega), takeLen_short ss.length c hc2]
    simp
  · have e : (lenL ss.length ++ body ss).take c = lenL ss.length ++ (body ss).take (c - (lenL ss.length).length) := by
      rw [List.take_append, List.take_of_length_le (by omega)]
    rw [e, takeLen_len ss.length h.1 ss.length (Int.le_refl _)]
    simp only [List.length_append] at hc
    have := takeN_short ss h.2 (c - (lenL ss.length).length) (by omega) 65535 (Int.le_refl _)
    simp [this]
theorem takeNum_short (v : Nat) (c : Nat) (hc : c < (numL v).length) : (takeNumL ((numL v).take c)).2.2 = 2 := by
  rw [numL_length] at hc
  unfold numL
  cases c with
  | zero => rfl
  | succ c =>
    rw [List.take_succ_cons, takeNumL, ofNat_cnt]
    have h8 := cnt_le v
    have hl : ((low (cnt v) v).take c).length < cnt v := by simp [low_length]; omega
    rw [if_neg (by omega), if_pos hl]
end Go.Proofs.Ythopjpjloeaamaa.Lm
namespace Go.Proofs.Ythopjpjloeaamaa
set_option maxRecDepth 100000
theorem sizeL_bd (l : List UInt8) : (Lm.sizeL l).1 ≤ 65535 ∧ (Lm.sizeL l).2.1.length ≤ l.length := by
  unfold Lm.sizeL
  split
  · simp
  · rename_i n r
    have := n.toNat_lt
    split
    · simp; omega
    · split
      · simp
      · split
        · rename_i a b r'
          have := a.toNat_lt
          have := b.toNat_lt
          split <;> simp <;> omega
        · simp
theorem takeLenL_bd (l : List UInt8) (most : Int) : (Lm.takeLenL l most).1 ≤ 65535 ∧ (Lm.takeLenL l most).2.1.length ≤ l.length := by
  have := sizeL_bd l
  unfold Lm.takeLenL
  split
  · simp
  · split
    · simp
    · exact this
theorem takeTextL_bd (l : List UInt8) (most : Int) : (Lm.takeTextL l most).1.length ≤ 65535 ∧ (Lm.takeTextL l most).2.1.length ≤ l.length := by
  have := takeLenL_bd l most
  unfold Lm.takeTextL
  split
  · simp
  · split
    · simp
    · simp; omega
end Go.Proofs.Ythopjpjloeaamaa
namespace Go.Proofs.Ythopjpjloeaamaa
set_option maxRecDepth 100000
set_option linter.unusedVariables false
def leafI (s : List UInt8) : List UInt8 := 0 :: s
def nodeI (a b : List UInt8) : List UInt8 := 1 :: (a ++ b)
def rootI (n : Nat) (c : List UInt8) : List UInt8 := 2 :: (Lm.numL n ++ c)
def hfGo : Nat → Nat → Nat → Nat
  | 0, k, _ => k
  | f + 1, k, n => if k + k < n then hfGo f (k + k) n else k
/-- The greatest power of two below n, from 2 on. -/
def hf (n : Nat) : Nat := hfGo n 1 n
theorem hfGo_step (f k n : Nat) (h1 : 1 ≤ k) (hf : n ≤ f + k) (h : k + k < n) : ∃ f', hfGo f k n = hfGo f' (k + k) n ∧ n ≤ f' + (k + k) := by
  cases f with
  | zero => omega
  | succ f => exact ⟨f, by rw [hfGo, if_pos h], by omega⟩
theorem hfGo_end (f k n : Nat) (h : ¬ k + k < n) : hfGo f k n = k := by
  cases f with
  | zero => rfl
  | succ f => rw [hfGo, if_neg h]
theorem hfGo_facts : ∀ (f k n : Nat), 1 ≤ k → n ≤ f + k → 1 ≤ hfGo f k n ∧ (k < n → hfGo f k n < n) ∧ n ≤ 2 * hfGo f k n := by
  intro f
  induction f with
  | zero => intro k n h1 h2; refine ⟨h1, fun h => h, ?_⟩; rw [hfGo]; omega
  | succ f ih =>
    intro k n h1 h2
    rw [hfGo]
    by_cases h : k + k < n
    · rw [if_pos h]
      have := ih (k + k) n (by omega) (by omega)
      exact ⟨this.1, fun _ => this.2.1 h, this.2.2⟩
    · rw [if_neg h]
      exact ⟨h1, fun h => h, by omega⟩
theorem hf_pos (n : Nat) : 1 ≤ hf n := (hfGo_facts n 1 n (by omega) (by omega)).1
theorem hf_lt (n : Nat) (h : 2 ≤ n) : hf n < n := (hfGo_facts n 1 n (by omega) (by omega)).2.1 (by omega)
theorem hf_ge (n : Nat) : n ≤ 2 * hf n := (hfGo_facts n 1 n (by omega) (by omega)).2.2
/-- The input of the crown of texts. -/
def topL (sm : List UInt8 → List UInt8) (l : List (List UInt8)) : List UInt8 :=
  if h : l.length ≤ 1 then leafI (l.headD []) else nodeI (sm (topL sm (l.take (hf l.length)))) (sm (topL sm (l.drop (hf l.length))))
  termination_by l.length
  decreasing_by
    · have := hf_lt l.length (by omega); simp; omega
    · have := hf_pos l.length; simp; omega
theorem topL_one (sm : List UInt8 → List UInt8) (s : List UInt8) : topL sm [s] = leafI s := by rw [topL]; rfl
theorem topL_more (sm : List UInt8 → List UInt8) (l : List (List UInt8)) (h : 2 ≤ l.length) : topL sm l = nodeI (sm (topL sm (l.take (hf l.length)))) (sm (topL sm (l.drop (hf l.length)))) := by
  rw [topL, dif_neg (by omega)]
def crownL (sm : List UInt8 → List UInt8) (l : List (List UInt8)) : List UInt8 := if l.length = 0 then [] else sm (topL sm l)
def rootL (sm : List UInt8 → List UInt8) (l : List (List UInt8)) : List UInt8 := sm (rootI l.length (crownL sm l))
/-- The proof of a place. -/
def pathL (sm : List UInt8 → List UInt8) (l : List (List UInt8)) (i : Nat) : List (List UInt8) :=
  if h : l.length ≤ 1 then [] else if i < hf l.length then pathL sm (l.take (hf l.length)) i ++ [crownL sm (l.drop (hf l.length))] else pathL sm (l.drop (hf l.length)) (i - hf l.length) ++ [crownL sm (l.take (hf l.length))]
  termination_by l.length
  decreasing_by
    · have := hf_lt l.length (by omega); simp; omega
    · have := hf_pos l.length; simp; omega
theorem pathL_one (sm : List UInt8 → List UInt8) (l : List (List UInt8)) (i : Nat) (h : l.length ≤ 1) : pathL sm l i = [] := by rw [pathL, dif_pos h]
theorem pathL_left (sm : List UInt8 → List UInt8) (l : List (List UInt8)) (i : Nat) (h : 2 ≤ l.length) (hi : i < hf l.length) : pathL sm l i = pathL sm (l.take (hf l.length)) i ++ [crownL sm (l.drop (hf l.length))] := by
  rw [pathL, dif_neg (by omega), if_pos hi]
theorem pathL_right (sm : List UInt8 → List UInt8) (l : List (List UInt8)) (i : Nat) (h : 2 ≤ l.length) (hi : ¬ i < hf l.length) : pathL sm l i = pathL sm (l.drop (hf l.length)) (i - hf l.length) ++ [crownL sm (l.take (hf l.length))] := by
  rw [pathL, dif_neg (by omega), if_neg hi]
/-- The inputs from the leaf to the crown, where there are as many sides. -/
def inL (sm : List UInt8 → List UInt8) (n i : Nat) (s : List UInt8) (p : List (List UInt8)) : Option (List (List UInt8)) :=
  if h : n ≤ 1 then (if p.length = 0 then some [leafI s] else none) else
    if p.length = 0 then none else
      if i < hf n then (inL sm (hf n) i s p.dropLast).map fun l => l ++ [nodeI (sm (l.getLastD [])) (p.getLastD [])]
      else (inL sm (n - hf n) (i - hf n) s p.dropLast).map fun l => l ++ [nodeI (p.getLastD []) (sm (l.getLastD []))]
  termination_by n
  decreasing_by
    · exact hf_lt n (by omega)
    · have := hf_pos n; omega
theorem inL_one (sm : List UInt8 → List UInt8) (n i : Nat) (s : List UInt8) (p : List (List UInt8)) (h : n ≤ 1) : inL sm n i s p = if p.length = 0 then some [leafI s] else none := by rw [inL, dif_pos h]
theorem inL_none (sm : List UInt8 → List UInt8) (n i : Nat) (s : List UInt8) (p : List (List UInt8)) (h : 2 ≤ n) (hp : p.length = 0) : inL sm n i s p = none := by rw [inL, dif_neg (by omega), if_pos hp]
theorem inL_left (sm : List UInt8 → List UInt8) (n i : Nat) (s : List UInt8) (p : List (List UInt8)) (h : 2 ≤ n) (hp : p.length ≠ 0) (hi : i < hf n) : inL sm n i s p = (inL sm (hf n) i s p.dropLast).map fun l => l ++ [nodeI (sm (l.getLastD [])) (p.getLastD [])] := by
  rw [inL, dif_neg (by omega), if_neg hp, if_pos hi]
theorem inL_right (sm : List UInt8 → List UInt8) (n i : Nat) (s : List UInt8) (p : List (List UInt8)) (h : 2 ≤ n) (hp : p.length ≠ 0) (hi : ¬ i < hf n) : inL sm n i s p = (inL sm (n - hf n) (i - hf n) s p.dropLast).map fun l => l ++ [nodeI (p.getLastD []) (sm (l.getLastD []))] := by
  rw [inL, dif_neg (by omega), if_neg hp, if_neg hi]
/-- Two texts, if they are unlike and have one sum. -/
def unL (sm : List UInt8 → List UInt8) (a b : List UInt8) : Option (List UInt8 × List UInt8) := if a ≠ b ∧ sm a = sm b then some (a, b) else none
/-- What Climb tells: the inputs, or an error. -/
def climbL (sm : List UInt8 → List UInt8) (n i : Int) (s : List UInt8) (p : List (List UInt8)) : List (List UInt8) × Nat :=
  if n < 1 ∨ 4096 < n ∨ i < 0 ∨ n ≤ i then ([], 1) else
    if ∃ x ∈ p, x.length ≠ 32 then ([], 14) else
      match inL sm n.toNat i.toNat s p with
      | none => ([], 14)
      | some l => (l ++ [rootI n.toNat (sm (l.getLastD []))], 0)
def checkL (sm : List UInt8 → List UInt8) (root : List UInt8) (n i : Int) (s : List UInt8) (p : List (List UInt8)) : Nat :=
  if (climbL sm n i s p).2 ≠ 0 then (climbL sm n i s p).2 else if sm ((climbL sm n i s p).1.getLastD []) ≠ root then 13 else 0
/-- From the last ones on, backwards, the first two of k that are unlike. -/
def backL (sm : List UInt8 → List UInt8) (x y : List (List UInt8)) : Nat → Option (List UInt8 × List UInt8)
  | 0 => none
  | k + 1 => if x.getD k [] ≠ y.getD k [] then unL sm (x.getD k []) (y.getD k []) else backL sm x y k
def clashL (sm : List UInt8 → List UInt8) (n i : Int) (a : List UInt8) (p : List (List UInt8)) (b : List UInt8) (q : List (List UInt8)) : Option (List UInt8 × List UInt8) :=
  if (climbL sm n i a p).2 ≠ 0 ∨ (climbL sm n i b q).2 ≠ 0 then none else backL sm (climbL sm n i a p).1 (climbL sm n i b q).1 (climbL sm n i a p).1.length
/-- What the crowns of two rows of as many texts give away. -/
def crL (sm : List UInt8 → List UInt8) (a b : List (List UInt8)) : Option (List UInt8 × List UInt8) :=
  if topL sm a ≠ topL sm b then unL sm (topL sm a) (topL sm b) else
    if h : a.length ≤ 1 then none else
      match crL sm (a.take (hf a.length)) (b.take (hf a.length)) with
      | some x => some x
      | none => crL sm (a.drop (hf a.length)) (b.drop (hf a.length))
  termination_by a.length
  decreasing_by
    · have := hf_lt a.length (by omega); simp; omega
    · have := hf_pos a.length; simp; omega
def differL (sm : List UInt8 → List UInt8) (a b : List (List UInt8)) : Option (List UInt8 × List UInt8) :=
  if 4096 < a.length ∨ 4096 < b.length then none else
    if rootI a.length (crownL sm a) ≠ rootI b.length (crownL sm b) then unL sm (rootI a.length (crownL sm a)) (rootI b.length (crownL sm b)) else
      if a.length = 0 then none else crL sm a b
end Go.Proofs.Ythopjpjloeaamaa
namespace Go.Proofs.Ythopjpjloeaamaa
set_option maxRecDepth 100000
set_option linter.unusedVariables false
section
variable (sm : List UInt8 → List UInt8) (h32 : ∀ s, (sm s).length = 32)
theorem crownL_len (h32 : ∀ s, (sm s).length = 32) (l : List (List UInt8)) (h : l.length ≠ 0) : (crownL sm l).length = 32 := by
  unfold crownL; rw [if_neg h]; exact h32 _
theorem pathL_32 (h32 : ∀ s, (sm s).length = 32) : ∀ (n : Nat) (l : List (List UInt8)) (i : Nat), l.length = n → i < l.length → ∀ x ∈ pathL sm l i, x.length = 32 := by
  intro n
  induction n using Nat.strongRecOn with
  | _ n ih =>
    intro l i hn hi x hx
    by_cases h1 : l.length ≤ 1
    · rw [pathL_one sm l i h1] at hx; cases hx
    · have hlt := hf_lt l.length (by omega)
      have hps := hf_pos l.length
      by_cases hk : i < hf l.length
      · rw [pathL_left sm l i (by omega) hk] at hx
        rcases List.mem_append.1 hx with h | h
        · exact ih (l.take (hf l.length)).length (by simp; omega) _ i rfl (by simp; omega) x h
        · simp at h; subst h; exact crownL_len sm h32 _ (by first | (rw [List.length_drop]; omega) | (rw [List.length_take]; omega))
      · rw [pathL_right sm l i (by omega) hk] at hx
        rcases List.mem_append.1 hx with h | h
        · exact ih (l.drop (hf l.length)).length (by simp; omega) _ (i - hf l.length) rfl (by simp; omega) x h
        · simp at h; subst h; exact crownL_len sm h32 _ (by first | (rw [List.length_drop]; omega) | (rw [List.length_take]; omega))
theorem inL_path : ∀ (n : Nat) (l : List (List UInt8)) (i : Nat) (s : List UInt8), l[i]? = some s → l.length = n → ∃ L, inL sm l.length i s (pathL sm l i) = some L ∧ L.getLastD [] = topL sm l := by
  intro n
  induction n using Nat.strongRecOn with
  | _ n ih =>
    intro l i s hs hn
    have hi : i < l.length := (List.getElem?_eq_some_iff.1 hs).1
    by_cases h1 : l.length ≤ 1
    · rw [pathL_one sm l i h1, inL_one sm _ _ _ _ h1]
      match l, hi, h1, hs with
      | [u], hi, _, hs =>
        have h0 : i = 0 := by simp at hi; exact hi
        subst h0
        simp at hs
        subst hs
        exact ⟨[leafI u], rfl, by rw [topL_one]; rfl⟩
    · have hlt := hf_lt l.length (by omega)
      have hps := hf_pos l.length
      by_cases hk : i < hf l.length
      · have lt1 : (l.take (hf l.length)).length = hf l.length := by rw [List.length_take]; omega
        obtain ⟨L, e1, e2⟩ := ih (l.take (hf l.length)).length (by omega) (l.take (hf l.length)) i s (by rw [List.getElem?_take_of_lt hk]; exact hs) rfl
        rw [lt1] at e1
        rw [pathL_left sm l i (by omega) hk, inL_left sm _ _ _ _ (by omega) (by simp) hk, List.dropLast_concat, e1]
        refine ⟨_, rfl, ?_⟩
        rw [List.getLastD_concat, List.getLastD_concat, e2, topL_more sm l (by omega)]
        unfold crownL
        rw [if_neg (by rw [List.length_drop]; omega)]
      · have lt1 : (l.drop (hf l.length)).length = l.length - hf l.length := List.length_drop
        obtain ⟨L, e1, e2⟩ := ih (l.drop (hf l.length)).length (by omega) (l.drop (hf l.length)) (i - hf l.length) s (by rw [List.getElem?_drop, show hf l.length + (i - hf l.length) = i by omega]; exact hs) rfl
        rw [lt1] at e1
        rw [pathL_right sm l i (by omega) hk, inL_right sm _ _ _ _ (by omega) (by simp) hk, List.dropLast_concat, e1]
        refine ⟨_, rfl, ?_⟩
        rw [List.getLastD_concat, List.getLastD_concat, e2, topL_more sm l (by omega)]
        unfold crownL
        rw [if_neg (by rw [List.length_take]; omega)]
/-- What Path tells Check takes. -/
theorem check_path (h32 : ∀ s, (sm s).length = 32) (l : List (List UInt8)) (hl : l.length ≤ 4096) (i : Nat) (hi : i < l.length) : checkL sm (rootL sm l) l.length i (l[i]'hi) (pathL sm l i) = 0 := by
  obtain ⟨L, e1, e2⟩ := inL_path sm l.length l i (l[i]'hi) (List.getElem?_eq_getElem hi) rfl
  have hp := pathL_32 sm h32 l.length l i rfl hi
  have hno : ¬ ∃ x ∈ pathL sm l i, x.length ≠ 32 := fun ⟨x, hx, hn⟩ => hn (hp x hx)
  have hc : climbL sm l.length i (l[i]'hi) (pathL sm l i) = (L ++ [rootI l.length (sm (L.getLastD []))], 0) := by
    unfold climbL
    rw [if_neg (by omega), if_neg hno]
    simp only [Int.toNat_natCast, e1]
  unfold checkL
  rw [hc]
  simp only [ne_eq, not_true, if_false, List.getLastD_concat]
  have hr : rootL sm l = sm (rootI l.length (sm (topL sm l))) := by unfold rootL crownL; rw [if_neg (by omega)]
  rw [e2, hr]
  simp
theorem unL_some (a b : List UInt8) (h : a ≠ b) (hs : sm a = sm b) : unL sm a b = some (a, b) := by unfold unL; rw [if_pos ⟨h, hs⟩]
theorem unL_honest (a b x y : List UInt8) (h : unL sm a b = some (x, y)) : x ≠ y ∧ sm x = sm y := by
  unfold unL at h
  by_cases hc : a ≠ b ∧ sm a = sm b
  · rw [if_pos hc] at h; cases h; exact hc
  · rw [if_neg hc] at h; cases h
theorem backL_honest (a b : List (List UInt8)) (x y : List UInt8) : ∀ k, backL sm a b k = some (x, y) → x ≠ y ∧ sm x = sm y
  | 0, h => by cases h
  | k + 1, h => by
    rw [backL] at h
    by_cases hc : a.getD k [] ≠ b.getD k []
    · rw [if_pos hc] at h; exact unL_honest sm _ _ _ _ h
    · rw [if_neg hc] at h; exact backL_honest a b x y k h
theorem clashL_honest (n i : Int) (a : List UInt8) (p : List (List UInt8)) (b : List UInt8) (q : List (List UInt8)) (x y : List UInt8) (h : clashL sm n i a p b q = some (x, y)) : x ≠ y ∧ sm x = sm y := by
  unfold clashL at h
  by_cases hc : (climbL sm n i a p).2 ≠ 0 ∨ (climbL sm n i b q).2 ≠ 0
  · rw [if_pos hc] at h; cases h
  · rw [if_neg hc] at h; exact backL_honest sm _ _ x y _ h
theorem crL_honest : ∀ (n : Nat) (a b : List (List UInt8)) (x y : List UInt8), a.length = n → crL sm a b = some (x, y) → x ≠ y ∧ sm x = sm y := by
  intro n
  induction n using Nat.strongRecOn with
  | _ n ih =>
    intro a b x y hn h
    rw [crL] at h
    by_cases hc : topL sm a ≠ topL sm b
    · rw [if_pos hc] at h; exact unL_honest sm _ _ _ _ h
    · rw [if_neg hc] at h
      by_cases h1 : a.length ≤ 1
      · rw [dif_pos h1] at h; cases h
      · rw [dif_neg h1] at h
        have hlt := hf_lt a.length (by omega)
        have hps := hf_pos a.length
        cases hl : crL sm (a.take (hf a.length)) (b.take (hf a.length)) with
        | some z =>
          rw [hl] at h
          cases h
          exact ih (a.take (hf a.length)).length (by simp; omega) _ _ x y rfl hl
        | none =>
          rw [hl] at h
          exact ih (a.drop (hf a.length)).length (by simp; omega) _ _ x y rfl h
theorem differL_honest (a b : List (List UInt8)) (x y : List UInt8) (h : differL sm a b = some (x, y)) : x ≠ y ∧ sm x = sm y := by
  unfold differL at h
  by_cases h1 : 4096 < a.length ∨ 4096 < b.length
  · rw [if_pos h1] at h; cases h
  · rw [if_neg h1] at h
    by_cases h2 : rootI a.length (crownL sm a) ≠ rootI b.length (crownL sm b)
    · rw [if_pos h2] at h; exact unL_honest sm _ _ _ _ h
    · rw [if_neg h2] at h
      by_cases h3 : a.length = 0
      · rw [if_pos h3] at h; cases h
      · rw [if_neg h3] at h; exact crL_honest sm a.length a b x y rfl h
theorem app_inj {a b c d : List UInt8} (h : a.length = c.length) (e : a ++ b = c ++ d) : a = c ∧ b = d := List.append_inj e h
theorem nodeI_inj {a b c d : List UInt8} (h : a.length = c.length) (e : nodeI a b = nodeI c d) : a = c ∧ b = d := by
  unfold nodeI at e
  exact List.append_inj (List.cons.inj e).2 h
/-- The crowns of unlike rows of one sum give two unlike texts. -/
theorem crL_some (h32 : ∀ s, (sm s).length = 32) : ∀ (n : Nat) (a b : List (List UInt8)), a.length = n → b.length = n → n ≠ 0 → sm (topL sm a) = sm (topL sm b) → a ≠ b → ∃ z, crL sm a b = some z := by
  intro n
  induction n using Nat.strongRecOn with
  | _ n ih =>
    intro a b ha hb h0 hs hne
    rw [crL]
    by_cases hc : topL sm a ≠ topL sm b
    · rw [if_pos hc, unL_some sm _ _ hc hs]; exact ⟨_, rfl⟩
    · rw [if_neg hc]
      have heq : topL sm a = topL sm b := Classical.not_not.1 hc
      by_cases h1 : a.length ≤ 1
      · exfalso
        match a, b, ha, hb, h0, h1 with
        | [s], [t], _, _, _, _ =>
          rw [topL_one, topL_one] at heq
          have := (List.cons.inj heq).2
          exact hne (by rw [this])
        | [], _, ha, _, h0, _ => exact h0 ha.symm
        | [s], [], ha, hb, _, _ => simp at ha hb; omega
        | [s], t :: u :: r, ha, hb, _, _ => simp at ha hb; omega
      · rw [dif_neg h1]
        have hlt := hf_lt a.length (by omega)
        have hps := hf_pos a.length
        rw [topL_more sm a (by omega), topL_more sm b (by omega), hb, ← ha] at heq
        obtain ⟨e1, e2⟩ := nodeI_inj (by rw [h32, h32]) heq
        by_cases hl : a.take (hf a.length) = b.take (hf a.length)
        · have hr : a.drop (hf a.length) ≠ b.drop (hf a.length) := fun hr => hne (by rw [← List.take_append_drop (hf a.length) a, ← List.take_append_drop (hf a.length) b, hl, hr])
          obtain ⟨z, hz⟩ := ih (a.drop (hf a.length)).length (by rw [List.length_drop]; omega) _ (b.drop (hf a.length)) rfl (by rw [List.length_drop, List.length_drop]; omega) (by rw [List.length_drop]; omega) e2 hr
          cases hm : crL sm (a.take (hf a.length)) (b.take (hf a.length)) with
          | some u => exact ⟨u, rfl⟩
          | none => exact ⟨z, hz⟩
        · obtain ⟨z, hz⟩ := ih (a.take (hf a.length)).length (by rw [List.length_take]; omega) _ (b.take (hf a.length)) rfl (by rw [List.length_take, List.length_take]; omega) (by rw [List.length_take]; omega) e1 hl
          rw [hz]
          exact ⟨z, rfl⟩
end
end Go.Proofs.Ythopjpjloeaamaa
namespace Go.Proofs.Ythopjpjloeaamaa
set_option maxRecDepth 100000
set_option linter.unusedVariables false
section
variable (sm : List UInt8 → List UInt8)
theorem rootI_inj (n m : Nat) (hn : n ≤ 4096) (hm : m ≤ 4096) (c d : List UInt8) (h : rootI n c = rootI m d) : n = m ∧ c = d := by
  have e : Lm.numL n ++ c = Lm.numL m ++ d := (List.cons.inj h).2
  have t1 := Lm.take_num n (by omega) c
  have t2 := Lm.take_num m (by omega) d
  rw [e, t2] at t1
  simp only [Prod.mk.injEq] at t1
  exact ⟨t1.1.symm, t1.2.1.symm⟩
theorem differ_some (h32 : ∀ s, (sm s).length = 32) (a b : List (List UInt8)) (ha : a.length ≤ 4096) (hb : b.length ≤ 4096) (hr : rootL sm a = rootL sm b) (hne : a ≠ b) : ∃ z, differL sm a b = some z := by
  unfold differL
  rw [if_neg (by omega)]
  by_cases h1 : rootI a.length (crownL sm a) ≠ rootI b.length (crownL sm b)
  · rw [if_pos h1, unL_some sm _ _ h1 hr]; exact ⟨_, rfl⟩
  · rw [if_neg h1]
    obtain ⟨e1, e2⟩ := rootI_inj _ _ ha hb _ _ (Classical.not_not.1 h1)
    by_cases h0 : a.length = 0
    · exfalso
      have x1 : a = [] := List.length_eq_zero_iff.1 h0
      have x2 : b = [] := List.length_eq_zero_iff.1 (e1.symm.trans h0)
      exact hne (by rw [x1, x2])
    · rw [if_neg h0]
      unfold crownL at e2
      rw [if_neg h0, if_neg (by omega)] at e2
      exact crL_some sm h32 a.length a b rfl e1.symm h0 e2 hne
/-- Two ways of inputs, side by side: as long; alike ones have, one ahead, one sum. -/
def Link (x y : List (List UInt8)) : Prop := x.length = y.length ∧ ∀ k, k + 1 < x.length → x.getD (k + 1) [] = y.getD (k + 1) [] → sm (x.getD k []) = sm (y.getD k [])
theorem last_getD (x : List (List UInt8)) : x.getLastD [] = x.getD (x.length - 1) [] := by
  rw [List.getLastD_eq_getLast?, List.getLast?_eq_getElem?]; rfl
theorem getD_left (x : List (List UInt8)) (t : List UInt8) (k : Nat) (h : k < x.length) : (x ++ [t]).getD k [] = x.getD k [] := by
  simp [List.getD, List.getElem?_append_left h]
theorem getD_end (x : List (List UInt8)) (t : List UInt8) : (x ++ [t]).getD x.length [] = t := by simp [List.getD]
theorem Link.snoc {x y : List (List UInt8)} (h : Link sm x y) (h0 : 0 < x.length) (s t : List UInt8) (hst : s = t → sm (x.getLastD []) = sm (y.getLastD [])) : Link sm (x ++ [s]) (y ++ [t]) := by
  obtain ⟨h1, h2⟩ := h
  refine ⟨by simp [h1], fun k hk he => ?_⟩
  have hk' : k < x.length := by simp at hk; exact hk
  rw [getD_left x s k hk', getD_left y t k (by omega)]
  by_cases hl : k + 1 < x.length
  · rw [getD_left x s _ hl, getD_left y t _ (by omega)] at he
    exact h2 k hl he
  · have hke : k + 1 = x.length := by omega
    rw [hke, getD_end, h1, getD_end] at he
    have := hst he
    rw [last_getD, last_getD, ← h1, ← hke] at this
    exact this
theorem inL_link (h32 : ∀ s, (sm s).length = 32) : ∀ (m n i : Nat) (a b : List UInt8) (p q x y : List (List UInt8)), n = m → (∀ s ∈ p, s.length = 32) → (∀ s ∈ q, s.length = 32) → inL sm n i a p = some x → inL sm n i b q = some y →
    Link sm x y ∧ 0 < x.length ∧ x.getD 0 [] = leafI a ∧ y.getD 0 [] = leafI b := by
  intro m
  induction m using Nat.strongRecOn with
  | _ m ih =>
    intro n i a b p q x y hn hp hq hx hy
    by_cases h1 : n ≤ 1
    · rw [inL_one sm _ _ _ _ h1] at hx hy
      by_cases hp0 : p.length = 0
      · by_cases hq0 : q.length = 0
        · rw [if_pos hp0] at hx
          rw [if_pos hq0] at hy
          cases hx
          cases hy
          exact ⟨⟨rfl, fun k hk => by simp at hk⟩, by simp, rfl, rfl⟩
        · rw [if_neg hq0] at hy; cases hy
      · rw [if_neg hp0] at hx; cases hx
    · by_cases hp0 : p.length = 0
      · rw [inL_none sm _ _ _ _ (by omega) hp0] at hx; cases hx
      · by_cases hq0 : q.length = 0
        · rw [inL_none sm _ _ _ _ (by omega) hq0] at hy; cases hy
        · have hpl : (p.getLastD []).length = 32 := by
            rw [last_getD]
            have hk : p.length - 1 < p.length := by omega
            rw [List.getD_eq_getElem?_getD, List.getElem?_eq_getElem hk]
            exact hp _ (List.getElem_mem hk)
          have hql : (q.getLastD []).length = 32 := by
            rw [last_getD]
            have hk : q.length - 1 < q.length := by omega
            rw [List.getD_eq_getElem?_getD, List.getElem?_eq_getElem hk]
            exact hq _ (List.getElem_mem hk)
          have hp' : ∀ s ∈ p.dropLast, s.length = 32 := fun s hs => hp s (List.dropLast_subset _ hs)
          have hq' : ∀ s ∈ q.dropLast, s.length = 32 := fun s hs => hq s (List.dropLast_subset _ hs)
          have hlt := hf_lt n (by omega)
          have hps := hf_pos n
          by_cases hi : i < hf n
          · rw [inL_left sm _ _ _ _ (by omega) hp0 hi, Option.map_eq_some_iff] at hx
            rw [inL_left sm _ _ _ _ (by omega) hq0 hi, Option.map_eq_some_iff] at hy
            obtain ⟨x', hx', rfl⟩ := hx
            obtain ⟨y', hy', rfl⟩ := hy
            obtain ⟨hL, h0, e1, e2⟩ := ih (hf n) (by omega) (hf n) i a b p.dropLast q.dropLast x' y' rfl hp' hq' hx' hy'
            refine ⟨hL.snoc sm h0 _ _ (fun he => (nodeI_inj (by rw [h32, h32]) he).1), by simp, ?_, ?_⟩
            · rw [getD_left _ _ _ h0]; exact e1
            · rw [getD_left _ _ _ (by rw [← hL.1]; exact h0)]; exact e2
          · rw [inL_right sm _ _ _ _ (by omega) hp0 hi, Option.map_eq_some_iff] at hx
            rw [inL_right sm _ _ _ _ (by omega) hq0 hi, Option.map_eq_some_iff] at hy
            obtain ⟨x', hx', rfl⟩ := hx
            obtain ⟨y', hy', rfl⟩ := hy
            obtain ⟨hL, h0, e1, e2⟩ := ih (n - hf n) (by omega) (n - hf n) (i - hf n) a b p.dropLast q.dropLast x' y' rfl hp' hq' hx' hy'
            refine ⟨hL.snoc sm h0 _ _ (fun he => (nodeI_inj (by rw [hpl, hql]) he).2), by simp, ?_, ?_⟩
            · rw [getD_left _ _ _ h0]; exact e1
            · rw [getD_left _ _ _ (by rw [← hL.1]; exact h0)]; exact e2
theorem back_some {x y : List (List UInt8)} (h : Link sm x y) (hl : sm (x.getLastD []) = sm (y.getLastD [])) : ∀ k, k ≤ x.length → (∃ j, j < k ∧ x.getD j [] ≠ y.getD j []) → (k < x.length → x.getD k [] = y.getD k []) → ∃ z, backL sm x y k = some z
  | 0, _, ⟨j, hj, _⟩, _ => by omega
  | k + 1, hk, ⟨j, hj, hne⟩, he => by
    rw [backL]
    by_cases hc : x.getD k [] ≠ y.getD k []
    · rw [if_pos hc]
      have hs : sm (x.getD k []) = sm (y.getD k []) := by
        by_cases hkl : k + 1 < x.length
        · exact h.2 k hkl (he hkl)
        · rw [last_getD, last_getD, ← h.1, show x.length - 1 = k by omega] at hl
          exact hl
      rw [unL_some sm _ _ hc hs]
      exact ⟨_, rfl⟩
    · rw [if_neg hc]
      refine back_some h hl k (by omega) ⟨j, ?_, hne⟩ (fun _ => Classical.not_not.1 hc)
      rcases Nat.lt_or_ge j k with h' | h'
      · exact h'
      · have : j = k := by omega
        subst this
        exact absurd hne hc
theorem climb_ok (n i : Int) (s : List UInt8) (p : List (List UInt8)) (h : (climbL sm n i s p).2 = 0) : ¬ (n < 1 ∨ 4096 < n ∨ i < 0 ∨ n ≤ i) ∧ (∀ x ∈ p, x.length = 32) ∧ ∃ l, inL sm n.toNat i.toNat s p = some l ∧ climbL sm n i s p = (l ++ [rootI n.toNat (sm (l.getLastD []))], 0) := by
  unfold climbL at h ⊢
  by_cases h1 : n < 1 ∨ 4096 < n ∨ i < 0 ∨ n ≤ i
  · rw [if_pos h1] at h; cases h
  · rw [if_neg h1] at h ⊢
    by_cases h2 : ∃ x ∈ p, x.length ≠ 32
    · rw [if_pos h2] at h; cases h
    · rw [if_neg h2] at h ⊢
      cases hm : inL sm n.toNat i.toNat s p with
      | none => rw [hm] at h; cases h
      | some l => exact ⟨h1, fun x hx => Classical.not_not.1 fun hn => h2 ⟨x, hx, hn⟩, l, rfl, rfl⟩
theorem check_ok (root : List UInt8) (n i : Int) (s : List UInt8) (p : List (List UInt8)) (h : checkL sm root n i s p = 0) : (climbL sm n i s p).2 = 0 ∧ sm ((climbL sm n i s p).1.getLastD []) = root := by
  unfold checkL at h
  by_cases h1 : (climbL sm n i s p).2 ≠ 0
  · rw [if_pos h1] at h; exact absurd h h1
  · rw [if_neg h1] at h
    by_cases h2 : sm ((climbL sm n i s p).1.getLastD []) ≠ root
    · rw [if_pos h2] at h; cases h
    · exact ⟨Classical.not_not.1 h1, Classical.not_not.1 h2⟩
/-- If Check takes two unlike texts at one place of one root, Clash gives two. -/
theorem clash_some (h32 : ∀ s, (sm s).length = 32) (root : List UInt8) (n i : Int) (a : List UInt8) (p : List (List UInt8)) (b : List UInt8) (q : List (List UInt8)) (hne : a ≠ b) (h1 : checkL sm root n i a p = 0) (h2 : checkL sm root n i b q = 0) : ∃ z, clashL sm n i a p b q = some z := by
  obtain ⟨c1, r1⟩ := check_ok sm _ _ _ _ _ h1
  obtain ⟨c2, r2⟩ := check_ok sm _ _ _ _ _ h2
  obtain ⟨hb, hp, x, hx, ex⟩ := climb_ok sm _ _ _ _ c1
  obtain ⟨_, hq, y, hy, ey⟩ := climb_ok sm _ _ _ _ c2
  obtain ⟨hL, h0, e1, e2⟩ := inL_link sm h32 n.toNat n.toNat i.toNat a b p q x y rfl hp hq hx hy
  unfold clashL
  rw [if_neg (by rw [c1, c2]; simp), ex, ey]
  rw [ex] at r1
  rw [ey] at r2
  have hL2 := hL.snoc sm h0 (rootI n.toNat (sm (x.getLastD []))) (rootI n.toNat (sm (y.getLastD []))) (fun he => (rootI_inj _ _ (by omega) (by omega) _ _ he).2)
  refine back_some sm hL2 (r1.trans r2.symm) _ (Nat.le_refl _) ⟨0, by simp, ?_⟩ (fun h => absurd h (Nat.lt_irrefl _))
  rw [getD_left _ _ _ h0, getD_left _ _ _ (by rw [← hL.1]; exact h0), e1, e2]
  intro he
  exact hne (List.cons.inj he).2
end
end Go.Proofs.Ythopjpjloeaamaa
namespace Go.Proofs.Ythopjpjloeaamaa
set_option maxRecDepth 100000
set_option linter.unusedVariables false
theorem last_get (x : List (List UInt8)) (h : 0 < x.length) : x.getLastD [] = x[x.length - 1]'(by omega) := by
  rw [last_getD, List.getD_eq_getElem?_getD, List.getElem?_eq_getElem (by omega)]; rfl
theorem last_mem (x : List (List UInt8)) (h : 0 < x.length) : x.getLastD [] ∈ x := by
  rw [last_get x h]; exact List.getElem_mem _
theorem inL_facts (sm : List UInt8 → List UInt8) (h32 : ∀ s, (sm s).length = 32) : ∀ (m n i : Nat) (s : List UInt8) (p L : List (List UInt8)), n = m → 1 ≤ n → (∀ x ∈ p, x.length = 32) → inL sm n i s p = some L →
    L.length ≤ n ∧ 0 < L.length ∧ ∀ t ∈ L, t.length ≤ s.length + 65 := by
  intro m
  induction m using Nat.strongRecOn with
  | _ m ih =>
    intro n i s p L hn h1n hp h
    by_cases h1 : n ≤ 1
    · rw [inL_one sm _ _ _ _ h1] at h
      by_cases hp0 : p.length = 0
      · rw [if_pos hp0] at h
        cases h
        exact ⟨by simp; omega, by simp, fun t ht => by simp at ht; subst ht; simp [leafI]⟩
      · rw [if_neg hp0] at h; cases h
    · by_cases hp0 : p.length = 0
      · rw [inL_none sm _ _ _ _ (by omega) hp0] at h; cases h
      · have hlt := hf_lt n (by omega)
        have hps := hf_pos n
        have hl := hp _ (last_mem p (by omega))
        have hp' : ∀ s ∈ p.dropLast, s.length = 32 := fun s hs => hp s (List.dropLast_subset _ hs)
        by_cases hi : i < hf n
        · rw [inL_left sm _ _ _ _ (by omega) hp0 hi, Option.map_eq_some_iff] at h
          obtain ⟨L', hL', rfl⟩ := h
          obtain ⟨e1, e2, e3⟩ := ih (hf n) (by omega) (hf n) i s p.dropLast L' rfl hps hp' hL'
          refine ⟨by rw [List.length_append]; simp only [List.length_cons, List.length_nil]; omega, by simp, fun t ht => ?_⟩
          rcases List.mem_append.1 ht with h | h
          · exact e3 t h
          · rw [List.mem_singleton] at h; rw [h]; unfold nodeI; rw [List.length_cons, List.length_append, h32, hl]; omega
        · rw [inL_right sm _ _ _ _ (by omega) hp0 hi, Option.map_eq_some_iff] at h
          obtain ⟨L', hL', rfl⟩ := h
          obtain ⟨e1, e2, e3⟩ := ih (n - hf n) (by omega) (n - hf n) (i - hf n) s p.dropLast L' rfl (by omega) hp' hL'
          refine ⟨by rw [List.length_append]; simp only [List.length_cons, List.length_nil]; omega, by simp, fun t ht => ?_⟩
          rcases List.mem_append.1 ht with h | h
          · exact e3 t h
          · rw [List.mem_singleton] at h; rw [h]; unfold nodeI; rw [List.length_cons, List.length_append, h32, hl]; omega
end Go.Proofs.Ythopjpjloeaamaa
namespace Go.Proofs.Ythopjpjloeaamaa
set_option maxRecDepth 100000
set_option linter.unusedVariables false
theorem hfGo_pow (s n : Nat) (hn : n ≤ 2 ^ (s + 1)) : ∀ (f j : Nat), j ≤ s → hfGo f (2 ^ j) n ≤ 2 ^ s := by
  intro f
  induction f with
  | zero => intro j hj; rw [hfGo]; exact Nat.pow_le_pow_right (by decide) hj
  | succ f ih =>
    intro j hj
    rw [hfGo]
    by_cases h : 2 ^ j + 2 ^ j < n
    · rw [if_pos h, show 2 ^ j + 2 ^ j = 2 ^ (j + 1) by rw [Nat.pow_succ]; omega]
      refine ih (j + 1) ?_
      have h1 : 2 ^ (j + 1) < 2 ^ (s + 1) := by rw [Nat.pow_succ]; omega
      have := (Nat.pow_lt_pow_iff_right (by decide : 1 < 2)).1 h1
      omega
    · rw [if_neg h]; exact Nat.pow_le_pow_right (by decide) hj
theorem hf_le (s n : Nat) (hn : n ≤ 2 ^ (s + 1)) : hf n ≤ 2 ^ s := hfGo_pow s n hn n 0 (Nat.zero_le _)
/-- A proof has at most as many sums as doublings reach over the row. -/
theorem pathL_sides (sm : List UInt8 → List UInt8) : ∀ (s : Nat) (l : List (List UInt8)) (i : Nat), l.length ≤ 2 ^ s → (pathL sm l i).length ≤ s
  | 0, l, i, h => by rw [pathL_one sm l i (by simpa using h)]; simp
  | s + 1, l, i, h => by
    by_cases h1 : l.length ≤ 1
    · rw [pathL_one sm l i h1]; simp
    · have hle := hf_le s l.length h
      have hge := hf_ge l.length
      by_cases hk : i < hf l.length
      · rw [pathL_left sm l i (by omega) hk, List.length_append]
        have := pathL_sides sm s (l.take (hf l.length)) i (by rw [List.length_take]; omega)
        simp only [List.length_cons, List.length_nil]; omega
      · rw [pathL_right sm l i (by omega) hk, List.length_append]
        have := pathL_sides sm s (l.drop (hf l.length)) (i - hf l.length) (by rw [List.length_drop]; omega)
        simp only [List.length_cons, List.length_nil]; omega
theorem pathL_pos (sm : List UInt8 → List UInt8) (l : List (List UInt8)) (i : Nat) (h : 2 ≤ l.length) : 0 < (pathL sm l i).length := by
  by_cases hk : i < hf l.length
  · rw [pathL_left sm l i h hk]; simp
  · rw [pathL_right sm l i h hk]; simp
end Go.Proofs.Ythopjpjloeaamaa
namespace Go.Proofs.Ythopjpjloeaamaa
set_option maxRecDepth 100000
set_option linter.unusedVariables false
/-- What stands beside a way of n: the places from a to below b, and whether they are to its right. -/
structure Side (n : Nat) where
  a : Nat
  b : Nat
  r : Bool
  h1 : a < b
  h2 : b ≤ n
theorem mid_le (a b : Nat) (h : ¬ b - a ≤ 1) : a + hf (b - a) < b := by have := hf_lt (b - a) (by omega); omega
def sidesS (n a b i : Nat) (h : b ≤ n) : List (Side n) :=
  if h1 : b - a ≤ 1 then [] else
    if i < a + hf (b - a) then sidesS n a (a + hf (b - a)) i (by have := mid_le a b h1; omega) ++ [⟨a + hf (b - a), b, true, by have := mid_le a b h1; omega, h⟩]
    else sidesS n (a + hf (b - a)) b i h ++ [⟨a, a + hf (b - a), false, by have := hf_pos (b - a); omega, by have := mid_le a b h1; omega⟩]
  termination_by b - a
  decreasing_by
    · have := mid_le a b h1; omega
    · have := hf_pos (b - a); omega
theorem sidesS_nil (n a b i : Nat) (h : b ≤ n) (h1 : b - a ≤ 1) : sidesS n a b i h = [] := by rw [sidesS, dif_pos h1]
theorem sidesS_left (n a b i : Nat) (h : b ≤ n) (h1 : ¬ b - a ≤ 1) (hi : i < a + hf (b - a)) (h' : a + hf (b - a) ≤ n) (h'' : a + hf (b - a) < b) : sidesS n a b i h = sidesS n a (a + hf (b - a)) i h' ++ [⟨a + hf (b - a), b, true, h'', h⟩] := by
  rw [sidesS, dif_neg h1, if_pos hi]
theorem sidesS_right (n a b i : Nat) (h : b ≤ n) (h1 : ¬ b - a ≤ 1) (hi : ¬ i < a + hf (b - a)) (h' : a < a + hf (b - a)) (h'' : a + hf (b - a) ≤ n) : sidesS n a b i h = sidesS n (a + hf (b - a)) b i h ++ [⟨a, a + hf (b - a), false, h', h''⟩] := by
  rw [sidesS, dif_neg h1, if_neg hi]
theorem sidesS_le (n : Nat) : ∀ (d a b i : Nat) (h : b ≤ n), b - a = d → (sidesS n a b i h).length ≤ d := by
  intro d
  induction d using Nat.strongRecOn with
  | _ d ih =>
    intro a b i h hd
    by_cases h1 : b - a ≤ 1
    · rw [sidesS_nil n a b i h h1]; simp
    · have hm := mid_le a b h1
      have hps := hf_pos (b - a)
      by_cases hi : i < a + hf (b - a)
      · rw [sidesS_left n a b i h h1 hi (by omega) (by omega), List.length_append]
        have := ih (hf (b - a)) (by omega) a (a + hf (b - a)) i (by omega) (by omega)
        simp only [List.length_cons, List.length_nil]; omega
      · rw [sidesS_right n a b i h h1 hi (by omega) (by omega), List.length_append]
        have := ih (b - (a + hf (b - a))) (by omega) (a + hf (b - a)) b i h rfl
        simp only [List.length_cons, List.length_nil]; omega
end Go.Proofs.Ythopjpjloeaamaa
namespace Go.Proofs.Ythopjpjloeaamaa
set_option maxRecDepth 100000
set_option linter.unusedVariables false
/-- The proof of a place: the crowns of its sides. -/
theorem path_sides (sm : List UInt8 → List UInt8) (ss : List (List UInt8)) : ∀ (d a b i : Nat) (h : b ≤ ss.length), b - a = d → a ≤ i → i < b →
    (sidesS ss.length a b i h).map (fun x => crownL sm ((ss.drop x.a).take (x.b - x.a))) = pathL sm ((ss.drop a).take (b - a)) (i - a) := by
  intro d
  induction d using Nat.strongRecOn with
  | _ d ih =>
    intro a b i h hd ha hi
    have hl : ((ss.drop a).take (b - a)).length = b - a := by rw [List.length_take, List.length_drop]; omega
    by_cases h1 : b - a ≤ 1
    · rw [sidesS_nil _ a b i h h1, pathL_one sm _ _ (by omega)]; rfl
    · have hm := mid_le a b h1
      have hps := hf_pos (b - a)
      by_cases hk : i < a + hf (b - a)
      · have hR := pathL_left sm ((ss.drop a).take (b - a)) (i - a) (by omega) (by rw [hl]; omega)
        rw [hl, List.take_take, Nat.min_eq_left (by omega), List.drop_take, List.drop_drop] at hR
        rw [hR, sidesS_left _ a b i h h1 hk (by omega) (by omega), List.map_append, ih (hf (b - a)) (by omega) a (a + hf (b - a)) i (by omega) (by omega) ha hk, show a + hf (b - a) - a = hf (b - a) by omega]
        simp only [List.map_cons, List.map_nil]
        rw [show b - (a + hf (b - a)) = b - a - hf (b - a) by omega]
      · have hR := pathL_right sm ((ss.drop a).take (b - a)) (i - a) (by omega) (by rw [hl]; omega)
        rw [hl, List.take_take, Nat.min_eq_left (by omega), List.drop_take, List.drop_drop] at hR
        rw [hR, sidesS_right _ a b i h h1 hk (by omega) (by omega), List.map_append, ih (b - (a + hf (b - a))) (by omega) (a + hf (b - a)) b i h rfl (by omega) hi]
        simp only [List.map_cons, List.map_nil]
        rw [show b - (a + hf (b - a)) = b - a - hf (b - a) by omega, show i - (a + hf (b - a)) = i - a - hf (b - a) by omega, show a + hf (b - a) - a = hf (b - a) by omega]
end Go.Proofs.Ythopjpjloeaamaa
namespace Go.Proofs.Ythopjpjloeaamaa
set_option maxRecDepth 100000
set_option linter.unusedVariables false
section
variable (sm : List UInt8 → List UInt8) {n : Nat}
def stepI (x : Side n) (q inp : List UInt8) : List UInt8 := if x.r = true then nodeI (sm inp) q else nodeI q (sm inp)
def wayR (s : List UInt8) (p : List (List UInt8)) : List (Side n) → List (List UInt8)
  | [] => [leafI s]
  | x :: xs => wayR s p xs ++ [stepI sm x (p.getD xs.length []) ((wayR s p xs).getLastD [])]
/-- The inputs behind these sides. -/
def wayL (s : List UInt8) (p : List (List UInt8)) (pre : List (Side n)) : List (List UInt8) := wayR sm s p pre.reverse
theorem wayL_nil (s : List UInt8) (p : List (List UInt8)) : wayL sm s p ([] : List (Side n)) = [leafI s] := rfl
theorem wayL_snoc (s : List UInt8) (p : List (List UInt8)) (pre : List (Side n)) (x : Side n) : wayL sm s p (pre ++ [x]) = wayL sm s p pre ++ [stepI sm x (p.getD pre.length []) ((wayL sm s p pre).getLastD [])] := by
  unfold wayL
  rw [List.reverse_append, List.reverse_singleton, List.singleton_append, wayR, List.length_reverse]
theorem wayR_len (s : List UInt8) (p : List (List UInt8)) : ∀ xs : List (Side n), (wayR sm s p xs).length = xs.length + 1
  | [] => rfl
  | x :: xs => by rw [wayR, List.length_append, wayR_len s p xs]; rfl
theorem wayL_len (s : List UInt8) (p : List (List UInt8)) (pre : List (Side n)) : (wayL sm s p pre).length = pre.length + 1 := by
  unfold wayL; rw [wayR_len, List.length_reverse]
theorem wayR_congr (s : List UInt8) (p q : List (List UInt8)) : ∀ xs : List (Side n), (∀ k, k < xs.length → p.getD k [] = q.getD k []) → wayR sm s p xs = wayR sm s q xs
  | [], _ => rfl
  | x :: xs, h => by rw [wayR, wayR, wayR_congr s p q xs (fun k hk => h k (by simp; omega)), h xs.length (by simp)]
theorem wayL_congr (s : List UInt8) (p q : List (List UInt8)) (pre : List (Side n)) (h : ∀ k, k < pre.length → p.getD k [] = q.getD k []) : wayL sm s p pre = wayL sm s q pre :=
  wayR_congr sm s p q _ (fun k hk => h k (by simpa using hk))
theorem wayR_bound (h32 : ∀ s, (sm s).length = 32) (s : List UInt8) (p : List (List UInt8)) (hp : ∀ x ∈ p, x.length = 32) : ∀ (xs : List (Side n)), ∀ t ∈ wayR sm s p xs, t.length ≤ s.length + 65
  | [], t, ht => by rw [wayR, List.mem_singleton] at ht; rw [ht]; simp [leafI]
  | x :: xs, t, ht => by
    rw [wayR] at ht
    rcases List.mem_append.1 ht with h | h
    · exact wayR_bound h32 s p hp xs t h
    · rw [List.mem_singleton] at h
      have hq : (p.getD xs.length []).length ≤ 32 := by
        rw [List.getD_eq_getElem?_getD]
        cases hx : p[xs.length]? with
        | none => simp
        | some y => rw [Option.getD_some, hp y (List.mem_of_getElem? hx)]; omega
      rw [h]
      unfold stepI
      by_cases hr : x.r = true
      · rw [if_pos hr]; unfold nodeI; rw [List.length_cons, List.length_append, h32]; omega
      · rw [if_neg hr]; unfold nodeI; rw [List.length_cons, List.length_append, h32]; omega
theorem wayL_bound (h32 : ∀ s, (sm s).length = 32) (s : List UInt8) (p : List (List UInt8)) (hp : ∀ x ∈ p, x.length = 32) (pre : List (Side n)) : ∀ t ∈ wayL sm s p pre, t.length ≤ s.length + 65 := wayR_bound sm h32 s p hp _
theorem dropLast_getD (p : List (List UInt8)) (k : Nat) (h : k + 1 < p.length) : p.dropLast.getD k [] = p.getD k [] := by
  rw [List.dropLast_eq_take, List.getD_eq_getElem?_getD, List.getD_eq_getElem?_getD, List.getElem?_take_of_lt (by omega)]
theorem way_in : ∀ (d a b i : Nat) (s : List UInt8) (p : List (List UInt8)) (h : b ≤ n), b - a = d → 1 ≤ d → a ≤ i → i < b → p.length = (sidesS n a b i h).length →
    inL sm (b - a) (i - a) s p = some (wayL sm s p (sidesS n a b i h)) := by
  intro d
  induction d using Nat.strongRecOn with
  | _ d ih =>
    intro a b i s p h hd h0 ha hi hp
    by_cases h1 : b - a ≤ 1
    · rw [sidesS_nil _ a b i h h1] at hp ⊢
      rw [inL_one sm _ _ _ _ h1, if_pos (by simpa using hp)]; rfl
    · have hm := mid_le a b h1
      have hps := hf_pos (b - a)
      by_cases hk : i < a + hf (b - a)
      · rw [sidesS_left _ a b i h h1 hk (by omega) (by omega)] at hp ⊢
        rw [List.length_append, List.length_singleton] at hp
        have hI := ih (hf (b - a)) (by omega) a (a + hf (b - a)) i s p.dropLast (by omega) (by omega) (by omega) ha hk (by rw [List.length_dropLast]; omega)
        rw [show a + hf (b - a) - a = hf (b - a) by omega] at hI
        rw [inL_left sm _ _ _ _ (by omega) (by omega) (by omega), hI, wayL_snoc, wayL_congr sm s p.dropLast p _ (fun k hk => dropLast_getD p k (by omega)), last_getD p, show p.length - 1 = (sidesS n a (a + hf (b - a)) i (by omega)).length by omega]
        rfl
      · rw [sidesS_right _ a b i h h1 hk (by omega) (by omega)] at hp ⊢
        rw [List.length_append, List.length_singleton] at hp
        have hI := ih (b - (a + hf (b - a))) (by omega) (a + hf (b - a)) b i s p.dropLast h rfl (by omega) (by omega) hi (by rw [List.length_dropLast]; omega)
        rw [show b - (a + hf (b - a)) = b - a - hf (b - a) by omega, show i - (a + hf (b - a)) = i - a - hf (b - a) by omega] at hI
        rw [inL_right sm _ _ _ _ (by omega) (by omega) (by omega), hI, wayL_snoc, wayL_congr sm s p.dropLast p _ (fun k hk => dropLast_getD p k (by omega)), last_getD p, show p.length - 1 = (sidesS n (a + hf (b - a)) b i h).length by omega]
        rfl
theorem way_none : ∀ (d a b i : Nat) (s : List UInt8) (p : List (List UInt8)) (h : b ≤ n), b - a = d → 1 ≤ d → a ≤ i → i < b → p.length ≠ (sidesS n a b i h).length →
    inL sm (b - a) (i - a) s p = none := by
  intro d
  induction d using Nat.strongRecOn with
  | _ d ih =>
    intro a b i s p h hd h0 ha hi hp
    by_cases h1 : b - a ≤ 1
    · rw [sidesS_nil _ a b i h h1] at hp
      rw [inL_one sm _ _ _ _ h1, if_neg (by simpa using hp)]
    · have hm := mid_le a b h1
      have hps := hf_pos (b - a)
      by_cases hp0 : p.length = 0
      · exact inL_none sm _ _ _ _ (by omega) hp0
      · by_cases hk : i < a + hf (b - a)
        · rw [sidesS_left _ a b i h h1 hk (by omega) (by omega), List.length_append, List.length_singleton] at hp
          have hI := ih (hf (b - a)) (by omega) a (a + hf (b - a)) i s p.dropLast (by omega) (by omega) (by omega) ha hk (by rw [List.length_dropLast]; omega)
          rw [show a + hf (b - a) - a = hf (b - a) by omega] at hI
          rw [inL_left sm _ _ _ _ (by omega) hp0 (by omega), hI]; rfl
        · rw [sidesS_right _ a b i h h1 hk (by omega) (by omega), List.length_append, List.length_singleton] at hp
          have hI := ih (b - (a + hf (b - a))) (by omega) (a + hf (b - a)) b i s p.dropLast h rfl (by omega) (by omega) hi (by rw [List.length_dropLast]; omega)
          rw [show b - (a + hf (b - a)) = b - a - hf (b - a) by omega, show i - (a + hf (b - a)) = i - a - hf (b - a) by omega] at hI
          rw [inL_right sm _ _ _ _ (by omega) hp0 (by omega), hI]; rfl
theorem climbL_fits (n i : Nat) (h1 : 1 ≤ n) (h4 : n ≤ 4096) (hi : i < n) (s : List UInt8) (p : List (List UInt8)) (hp : p.length = (sidesS n 0 n i (Nat.le_refl _)).length) (h32 : ∀ x ∈ p, x.length = 32) :
    climbL sm n i s p = (wayL sm s p (sidesS n 0 n i (Nat.le_refl _)) ++ [rootI n (sm ((wayL sm s p (sidesS n 0 n i (Nat.le_refl _))).getLastD []))], 0) := by
  have hI := way_in sm (n := n) (n - 0) 0 n i s p (Nat.le_refl _) rfl (by omega) (by omega) hi hp
  rw [Nat.sub_zero, Nat.sub_zero] at hI
  unfold climbL
  rw [if_neg (by omega), if_neg (fun ⟨x, hx, hn⟩ => hn (h32 x hx))]
  simp only [Int.toNat_natCast, hI]
theorem climbL_no (n i : Nat) (h1 : 1 ≤ n) (h4 : n ≤ 4096) (hi : i < n) (s : List UInt8) (p : List (List UInt8)) (hp : ¬ (p.length = (sidesS n 0 n i (Nat.le_refl _)).length ∧ ∀ x ∈ p, x.length = 32)) : climbL sm n i s p = ([], 14) := by
  unfold climbL
  rw [if_neg (by omega)]
  by_cases h32 : ∃ x ∈ p, x.length ≠ 32
  · rw [if_pos h32]
  · have hl : p.length ≠ (sidesS n 0 n i (Nat.le_refl _)).length := fun hl => hp ⟨hl, fun x hx => Classical.not_not.1 fun hn => h32 ⟨x, hx, hn⟩⟩
    have hI := way_none sm (n := n) (n - 0) 0 n i s p (Nat.le_refl _) rfl (by omega) (by omega) hi hl
    rw [Nat.sub_zero, Nat.sub_zero] at hI
    rw [if_neg h32]
    simp only [Int.toNat_natCast, hI]
end
end Go.Proofs.Ythopjpjloeaamaa
