/-
  Plain facts on numbers, texts and rows as bytes: no program in sight.
  Plain facts on rows of texts as bytes, and on what is taken from bytes: no program in sight.
  Events and their bytes, in lists: of no program.
  Histories in lists: places, ends, writes, versions, which are well formed: of no program.
  What follows of a history that is well formed, in lists: of no program.
  Histories grown and cut, in lists: of no program.
  What a committed transaction saw and should not have seen, in lists: of no program.
  What is told of a read of a well formed history is so, in lists: of no program.
  Beginnings of the row of all places: of no program.
  Edges of a history, in lists: of no program.
  Keys of a history, as a loop makes them: in lists.
-/
import Derived.RangeFuncNested
namespace Go.Proofs.Ytljgflgfcbmgiaa.Lm

/-- How many bytes a number below 2^64 takes. -/
def cnt (v : Nat) : Nat :=
  if v = 0 then 0 else if v < 256 then 1 else if v < 65536 then 2 else if v < 16777216 then 3 else if v < 4294967296 then 4
  else if v < 1099511627776 then 5 else if v < 281474976710656 then 6 else if v < 72057594037927936 then 7 else 8

/-- The low k bytes of v, the highest first. -/
def low : Nat → Nat → List UInt8
  | 0, _ => []
  | k + 1, v => UInt8.ofNat (v / 256 ^ k) :: low k v

def numL (v : Nat) : List UInt8 := UInt8.ofNat (cnt v) :: low (cnt v) v

def val (l : List UInt8) : Nat := l.foldl (fun a b => 256 * a + b.toNat) 0

theorem low_length (k v : Nat) : (low k v).length = k := by
  induction k with
  | zero => rfl
  | succ k ih => simp [low, ih]

theorem foldl_val (l : List UInt8) (a : Nat) : l.foldl (fun a b => 256 * a + b.toNat) a = a * 256 ^ l.length + val l := by
  unfold val
  induction l generalizing a with
  | nil => simp
  | cons b l ih =>
    simp only [List.foldl_cons, List.length_cons]
    rw [ih, ih (256 * 0 + b.toNat)]
    rw [Nat.pow_succ]
    generalize 256 ^ l.length = p
    have : (256 * a + b.toNat) * p = a * (p * 256) + b.toNat * p := by
      rw [Nat.add_mul, Nat.mul_comm 256 a, Nat.mul_assoc, Nat.mul_comm 256 p]
    rw [this]; simp; omega

theorem val_cons (b : UInt8) (l : List UInt8) : val (b :: l) = b.toNat * 256 ^ l.length + val l := by
  rw [val, List.foldl_cons, foldl_val]; simp

theorem val_snoc (l : List UInt8) (b : UInt8) : val (l ++ [b]) = 256 * val l + b.toNat := by
  simp [val, List.foldl_append]

theorem val_lt (l : List UInt8) : val l < 256 ^ l.length := by
  induction l with
  | nil => simp [val]
  | cons b l ih =>
    rw [val_cons, List.length_cons, Nat.pow_succ]
    have hb : b.toNat < 256 := b.toNat_lt
    have : b.toNat * 256 ^ l.length ≤ 255 * 256 ^ l.length := Nat.mul_le_mul_right _ (by omega)
    omega

theorem val_low (k v : Nat) : val (low k v) = v % 256 ^ k := by
  induction k with
  | zero => simp [low, val, Nat.mod_one]
  | succ k ih =>
    rw [low, val_cons, low_length, ih]
    have h : (UInt8.ofNat (v / 256 ^ k)).toNat = v / 256 ^ k % 256 := by simp
    rw [h, Nat.pow_succ, Nat.mod_mul, Nat.mul_comm]; omega

theorem low_val (l : List UInt8) : low l.length (val l) = l := by
  induction l with
  | nil => rfl
  | cons b l ih =>
    have hlt := val_lt l
    rw [List.length_cons, low, val_cons]
    have hp : 0 < 256 ^ l.length := Nat.pow_pos (by omega)
    have h1 : (b.toNat * 256 ^ l.length + val l) / 256 ^ l.length = b.toNat := by
      rw [Nat.add_comm, Nat.add_mul_div_right _ _ hp, Nat.div_eq_of_lt hlt]; omega
    rw [h1]
    have h2 : ∀ k v w, v % 256 ^ k = w % 256 ^ k → low k v = low k w := by
      intro k
      induction k with
      | zero => intros; rfl
      | succ k ihk =>
        intro v w h
        have e1 : v / 256 ^ k % 256 = w / 256 ^ k % 256 := by
          rw [← Nat.mod_mul_right_div_self, ← Nat.mod_mul_right_div_self, ← Nat.pow_succ, h]
        have e2 : v % 256 ^ k = w % 256 ^ k := by
          have := congrArg (· % 256 ^ k) h
          simp only [Nat.pow_succ, Nat.mod_mul_right_mod] at this
          exact this
        rw [low, low, ihk _ _ e2]
        congr 1
        apply UInt8.toNat_inj.1
        simpa using e1
    rw [h2 l.length (b.toNat * 256 ^ l.length + val l) (val l) (by rw [Nat.mul_add_mod_self_right]), ih]
    congr 1
    simp

theorem cnt_le (v : Nat) : cnt v ≤ 8 := by unfold cnt; (repeat' split) <;> omega

theorem cnt_eq (v k : Nat) (hk : k ≤ 8) (h1 : k = 0 ∨ 256 ^ (k - 1) ≤ v) (h2 : v < 256 ^ k) : cnt v = k := by
  have hk' : k = 0 ∨ k = 1 ∨ k = 2 ∨ k = 3 ∨ k = 4 ∨ k = 5 ∨ k = 6 ∨ k = 7 ∨ k = 8 := by omega
  unfold cnt
  rcases hk' with rfl | rfl | rfl | rfl | rfl | rfl | rfl | rfl | rfl <;> simp at h1 h2 <;> (repeat' split) <;> omega

theorem cnt_bounds (v : Nat) (hv : v < 2 ^ 64) : v < 256 ^ cnt v ∧ (cnt v = 0 ∨ 256 ^ (cnt v - 1) ≤ v) := by
  have key : ∀ k, k ≤ 8 → (k = 0 ∨ 256 ^ (k - 1) ≤ v) → v < 256 ^ k → v < 256 ^ cnt v ∧ (cnt v = 0 ∨ 256 ^ (cnt v - 1) ≤ v) := by
    intro k hk h1 h2
    rw [cnt_eq v k hk h1 h2]; exact ⟨h2, h1⟩
  by_cases h0 : v < 1
  · exact key 0 (by omega) (.inl rfl) (by have e : (256 : Nat) ^ 0 = 1 := (by decide); omega)
  by_cases h1 : v < 256
  · exact key 1 (by omega) (.inr (by have e : (256 : Nat) ^ (1 - 1) = 1 := (by decide); omega)) (by have e : (256 : Nat) ^ 1 = 256 := (by decide); omega)
  by_cases h2 : v < 65536
  · exact key 2 (by omega) (.inr (by have e : (256 : Nat) ^ (2 - 1) = 256 := (by decide); omega)) (by have e : (256 : Nat) ^ 2 = 65536 := (by decide); omega)
  by_cases h3 : v < 16777216
  · exact key 3 (by omega) (.inr (by have e : (256 : Nat) ^ (3 - 1) = 65536 := (by decide); omega)) (by have e : (256 : Nat) ^ 3 = 16777216 := (by decide); omega)
  by_cases h4 : v < 4294967296
  · exact key 4 (by omega) (.inr (by have e : (256 : Nat) ^ (4 - 1) = 16777216 := (by decide); omega)) (by have e : (256 : Nat) ^ 4 = 4294967296 := (by decide); omega)
  by_cases h5 : v < 1099511627776
  · exact key 5 (by omega) (.inr (by have e : (256 : Nat) ^ (5 - 1) = 4294967296 := (by decide); omega)) (by have e : (256 : Nat) ^ 5 = 1099511627776 := (by decide); omega)
  by_cases h6 : v < 281474976710656
  · exact key 6 (by omega) (.inr (by have e : (256 : Nat) ^ (6 - 1) = 1099511627776 := (by decide); omega)) (by have e : (256 : Nat) ^ 6 = 281474976710656 := (by decide); omega)
  by_cases h7 : v < 72057594037927936
  · exact key 7 (by omega) (.inr (by have e : (256 : Nat) ^ (7 - 1) = 281474976710656 := (by decide); omega)) (by have e : (256 : Nat) ^ 7 = 72057594037927936 := (by decide); omega)
  exact key 8 (by omega) (.inr (by have e : (256 : Nat) ^ (8 - 1) = 72057594037927936 := (by decide); omega)) (by have e : (256 : Nat) ^ 8 = 2 ^ 64 := (by decide); omega)

theorem cnt_mono (a b : Nat) (hb : b < 2 ^ 64) (h : a ≤ b) : cnt a ≤ cnt b := by
  obtain ⟨h1, h2⟩ := cnt_bounds a (by omega)
  obtain ⟨h3, h4⟩ := cnt_bounds b hb
  rcases Nat.lt_or_ge (cnt b) (cnt a) with h' | h'
  · have : 256 ^ cnt b ≤ 256 ^ (cnt a - 1) := Nat.pow_le_pow_right (by omega) (by omega)
    omega
  · exact h'

/-- The count, as a loop meets it. -/
theorem cnt_of_loop (v k : Nat) (hv : v < 2 ^ 64) (h1 : k = 0 ∨ 0 < v / 256 ^ (k - 1)) (h2 : v / 256 ^ k = 0) : k = cnt v := by
  have hp : ∀ j, 0 < 256 ^ j := fun j => Nat.pow_pos (by omega)
  have h2' : v < 256 ^ k := by
    rcases Nat.lt_or_ge v (256 ^ k) with h | h
    · exact h
    · have := Nat.div_pos h (hp k); omega
  have h1' : k = 0 ∨ 256 ^ (k - 1) ≤ v := by
    rcases h1 with h | h
    · exact .inl h
    · right
      rcases Nat.lt_or_ge v (256 ^ (k - 1)) with h' | h'
      · rw [Nat.div_eq_of_lt h'] at h; omega
      · exact h'
  have hk : k ≤ 8 := by
    rcases h1' with h | h
    · omega
    · rcases Nat.lt_or_ge 8 k with h8 | h8
      · have : 256 ^ 8 ≤ 256 ^ (k - 1) := Nat.pow_le_pow_right (by omega) (by omega)
        have e : (256 : Nat) ^ 8 = 2 ^ 64 := by decide
        omega
      · exact h8
  exact (cnt_eq v k hk h1' h2').symm

theorem loop_le (v k : Nat) (hv : v < 2 ^ 64) (h : 0 < v / 256 ^ k) : k < 8 := by
  rcases Nat.lt_or_ge k 8 with h8 | h8
  · exact h8
  · have h1 : 256 ^ 8 ≤ 256 ^ k := Nat.pow_le_pow_right (by omega) h8
    have e : (256 : Nat) ^ 8 = 2 ^ 64 := by decide
    rw [Nat.div_eq_of_lt (by omega)] at h; omega

def takeNumL : List UInt8 → Nat × List UInt8 × Nat
  | [] => (0, [], 2)
  | n :: r => if 8 < n.toNat then (0, [], 3) else if r.length < n.toNat then (0, [], 2) else if 0 < n.toNat ∧ r.head? = some 0 then (0, [], 3)
    else (val (r.take n.toNat), r.drop n.toNat, 0)

theorem numL_length (v : Nat) : (numL v).length = cnt v + 1 := by simp [numL, low_length]

theorem ofNat_cnt (v : Nat) : (UInt8.ofNat (cnt v)).toNat = cnt v := by
  have := cnt_le v
  rw [UInt8.toNat_ofNat']; omega

theorem low_head (v : Nat) (hv : v < 2 ^ 64) (h : 0 < cnt v) : (low (cnt v) v).head? ≠ some 0 := by
  obtain ⟨h1, h2⟩ := cnt_bounds v hv
  cases hc : cnt v with
  | zero => omega
  | succ k =>
    rw [hc] at h1 h2
    simp only [low, List.head?_cons, ne_eq, Option.some.injEq]
    intro h0
    have := congrArg UInt8.toNat h0
    simp at this
    have hk : 256 ^ k ≤ v := by rcases h2 with h | h; omega; simpa using h
    have hp : 0 < 256 ^ k := Nat.pow_pos (by omega)
    have h3 := Nat.div_pos hk hp
    have h4 : v / 256 ^ k < 256 := by
      rw [Nat.div_lt_iff_lt_mul hp]; rw [Nat.pow_succ] at h1; omega
    omega

theorem take_num (v : Nat) (hv : v < 2 ^ 64) (more : List UInt8) : takeNumL (numL v ++ more) = (v, more, 0) := by
  have h8 := cnt_le v
  have hl := low_length (cnt v) v
  have hb := (cnt_bounds v hv).1
  rw [numL, List.cons_append, takeNumL, ofNat_cnt]
  rw [if_neg (by omega), if_neg (by simp [hl]), if_neg, List.take_append_of_le_length (by omega), List.drop_append_of_le_length (by omega),
    List.take_of_length_le (by omega), List.drop_of_length_le (by omega), val_low, Nat.mod_eq_of_lt hb]
  · simp
  · rintro ⟨h0, h⟩
    apply low_head v hv h0
    rw [← h]
    cases hc : low (cnt v) v with
    | nil => simp [hc] at hl; omega
    | cons a l => simp

theorem num_take (s : List UInt8) (y : Nat) (left : List UInt8) (h : takeNumL s = (y, left, 0)) : numL y ++ left = s ∧ y < 2 ^ 64 := by
  match s, h with
  | n :: r, h =>
    rw [takeNumL] at h
    by_cases h8 : 8 < n.toNat
    · rw [if_pos h8] at h; simp at h
    rw [if_neg h8] at h
    by_cases hl : r.length < n.toNat
    · rw [if_pos hl] at h; simp at h
    rw [if_neg hl] at h
    by_cases hh : 0 < n.toNat ∧ r.head? = some 0
    · rw [if_pos hh] at h; simp at h
    rw [if_neg hh] at h
    simp only [Prod.mk.injEq] at h
    obtain ⟨rfl, rfl, -⟩ := h
    have hlen : (r.take n.toNat).length = n.toNat := by simp; omega
    have hlt := val_lt (r.take n.toNat)
    rw [hlen] at hlt
    have hc : cnt (val (r.take n.toNat)) = n.toNat := by
      apply cnt_eq _ _ (by omega) ?_ hlt
      by_cases hn : n.toNat = 0
      · exact .inl hn
      · right
        cases hr : r.take n.toNat with
        | nil => rw [hr] at hlen; simp at hlen; omega
        | cons b l =>
          have hrh : r.head? = some b := by
            cases r with
            | nil => simp at hr
            | cons b' r' =>
              obtain ⟨m, hm⟩ := Nat.exists_eq_succ_of_ne_zero hn
              rw [hm, Nat.succ_eq_add_one, List.take_succ_cons] at hr
              simp at hr ⊢; exact hr.1
          have hb : b ≠ 0 := by
            intro hb; apply hh; rw [hrh, hb]; exact ⟨by omega, rfl⟩
          have hb' : 0 < b.toNat := by
            rcases Nat.eq_zero_or_pos b.toNat with h | h
            · exfalso; apply hb; apply UInt8.toNat_inj.1; simpa using h
            · exact h
          have hl' : l.length = n.toNat - 1 := by
            have := hlen; rw [hr] at this; simp at this; omega
          rw [val_cons, hl']
          have := Nat.le_mul_of_pos_left (256 ^ (n.toNat - 1)) hb'
          omega
    refine ⟨?_, ?_⟩
    · have e1 : low n.toNat (val (r.take n.toNat)) = r.take n.toNat := by
        have := low_val (r.take n.toNat); rwa [hlen] at this
      rw [numL, hc, e1, List.cons_append, List.take_append_drop]
      simp
    · have : 256 ^ n.toNat ≤ 256 ^ 8 := Nat.pow_le_pow_right (by omega) (by omega)
      have e : (256 : Nat) ^ 8 = 2 ^ 64 := by decide
      omega

theorem numL_inj (a b : Nat) (ha : a < 2 ^ 64) (hb : b < 2 ^ 64) : numL a = numL b ↔ a = b := by
  constructor
  · intro h
    have h1 := take_num a ha []
    rw [h, take_num b hb []] at h1
    simp at h1; exact h1.symm
  · rintro rfl; rfl

/-! ### Lengths, texts, rows -/
def lenL (n : Nat) : List UInt8 := if n ≤ 250 then [UInt8.ofNat n] else [251, UInt8.ofNat (n / 256), UInt8.ofNat (n % 256)]

/-- A length, what stands behind it, and the answer: whatever the bound. -/
def sizeL : List UInt8 → Nat × List UInt8 × Nat
  | [] => (0, [], 2)
  | n :: r => if n.toNat ≤ 250 then (n.toNat, r, 0) else if 251 < n.toNat then (0, [], 3) else
    match r with
    | a :: b :: r' => if 256 * a.toNat + b.toNat ≤ 250 then (0, [], 3) else (256 * a.toNat + b.toNat, r', 0)
    | _ => (0, [], 2)

/-- The same, at most so much. -/
def takeLenL (s : List UInt8) (most : Int) : Nat × List UInt8 × Nat :=
  if (sizeL s).2.2 ≠ 0 then (0, [], (sizeL s).2.2) else if most < (sizeL s).1 then (0, [], 4) else sizeL s

def textL (t : List UInt8) : List UInt8 × Nat := if 65535 < t.length then ([], 4) else (lenL t.length ++ t, 0)

def takeTextL (s : List UInt8) (most : Int) : List UInt8 × List UInt8 × Nat :=
  if (takeLenL s most).2.2 ≠ 0 then ([], [], (takeLenL s most).2.2)
  else if (takeLenL s most).2.1.length < (takeLenL s most).1 then ([], [], 2)
  else ((takeLenL s most).2.1.take (takeLenL s most).1, (takeLenL s most).2.1.drop (takeLenL s most).1, 0)

theorem size_len (n : Nat) (h : n ≤ 65535) (more : List UInt8) : sizeL (lenL n ++ more) = (n, more, 0) := by
  unfold lenL
  by_cases h1 : n ≤ 250
  · have e : (UInt8.ofNat n).toNat = n := by simp; omega
    rw [if_pos h1]
    simp only [List.cons_append, List.nil_append, sizeL]
    rw [if_pos (by omega), e]
  · have e1 : (UInt8.ofNat (n / 256)).toNat = n / 256 := by simp; omega
    have e2 : (UInt8.ofNat (n % 256)).toNat = n % 256 := by simp
    rw [if_neg h1]
    simp only [List.cons_append, List.nil_append, sizeL]
    rw [if_neg (by decide), if_neg (by decide), e1, e2, if_neg (by omega)]
    have : 256 * (n / 256) + n % 256 = n := by omega
    rw [this]

theorem takeLen_len (n : Nat) (h : n ≤ 65535) (most : Int) (hm : (n : Int) ≤ most) (more : List UInt8) : takeLenL (lenL n ++ more) most = (n, more, 0) := by
  simp only [takeLenL, size_len n h more]
  simp; omega

theorem takeText_text (t : List UInt8) (h : t.length ≤ 65535) (most : Int) (hm : (t.length : Int) ≤ most) (more : List UInt8) : takeTextL (lenL t.length ++ t ++ more) most = (t, more, 0) := by
  simp only [takeTextL, List.append_assoc, takeLen_len t.length h most hm]
  simp
/-- A row's texts, one behind the other. -/
def body : List (List UInt8) → List UInt8
  | [] => []
  | t :: r => lenL t.length ++ t ++ body r
def rowOk (ss : List (List UInt8)) : Bool := decide (ss.length ≤ 65535) && ss.all fun t => decide (t.length ≤ 65535)
def rowL (ss : List (List UInt8)) : List UInt8 × Nat := if rowOk ss = true then (lenL ss.length ++ body ss, 0) else ([], 4)

theorem body_append (a b : List (List UInt8)) : body (a ++ b) = body a ++ body b := by
  induction a with
  | nil => rfl
  | cons t a ih => simp [body, ih]
theorem body_snoc (a : List (List UInt8)) (t : List UInt8) : body (a ++ [t]) = body a ++ (lenL t.length ++ t) := by
  simp [body_append, body]
theorem lenL_le (n : Nat) : (lenL n).length ≤ 3 := by unfold lenL; split <;> simp
theorem lenL_pos (n : Nat) : 1 ≤ (lenL n).length := by unfold lenL; split <;> simp
theorem body_length (ss : List (List UInt8)) (h : ∀ t ∈ ss, t.length ≤ 65535) : (body ss).length ≤ ss.length * 65538 := by
  induction ss with
  | nil => simp [body]
  | cons t r ih =>
    have h1 := h t (by simp)
    have h2 := ih (fun x hx => h x (by simp [hx]))
    have h3 := lenL_le t.length
    simp [body]; omega
theorem rowOk_iff (ss : List (List UInt8)) : rowOk ss = true ↔ ss.length ≤ 65535 ∧ ∀ t ∈ ss, t.length ≤ 65535 := by
  simp [rowOk]
end Go.Proofs.Ytljgflgfcbmgiaa.Lm
namespace Go.Proofs.Ytljgflgfcbmgiaa.Lm
/-- n texts, one behind the other. -/
def takeN : Nat → List UInt8 → Int → List (List UInt8) × List UInt8 × Nat
  | 0, s, _ => ([], s, 0)
  | n + 1, s, most =>
    if (takeTextL s most).2.2 ≠ 0 then ([], [], (takeTextL s most).2.2)
    else if (takeN n (takeTextL s most).2.1 most).2.2 ≠ 0 then ([], [], (takeN n (takeTextL s most).2.1 most).2.2)
    else ((takeTextL s most).1 :: (takeN n (takeTextL s most).2.1 most).1, (takeN n (takeTextL s most).2.1 most).2.1, 0)
def takeRowL (s : List UInt8) (many most : Int) : List (List UInt8) × List UInt8 × Nat :=
  if (takeLenL s many).2.2 ≠ 0 then ([], [], (takeLenL s many).2.2) else takeN (takeLenL s many).1 (takeLenL s many).2.1 most
/-- What was taken ahead, and what is taken then. -/
def pre (l : List (List UInt8)) (x : List (List UInt8) × List UInt8 × Nat) : List (List UInt8) × List UInt8 × Nat :=
  if x.2.2 ≠ 0 then ([], [], x.2.2) else (l ++ x.1, x.2.1, 0)
theorem pre_nil (x : List (List UInt8) × List UInt8 × Nat) (h : x.2.2 ≠ 0 → x.1 = [] ∧ x.2.1 = []) : pre [] x = x := by
  obtain ⟨a, b, c⟩ := x
  unfold pre
  by_cases hc : c = 0
  · simp [hc]
  · have := h hc; simp at this; simp [hc, this]
theorem takeN_bad (n : Nat) (s : List UInt8) (most : Int) : (takeN n s most).2.2 ≠ 0 → (takeN n s most).1 = [] ∧ (takeN n s most).2.1 = [] := by
  cases n with
  | zero => simp [takeN]
  | succ n =>
    rw [takeN]
    split
    · simp
    · split
      · simp
      · simp
theorem pre_step_bad (l : List (List UInt8)) (n : Nat) (s : List UInt8) (most : Int) (h : (takeTextL s most).2.2 ≠ 0) : pre l (takeN (n + 1) s most) = ([], [], (takeTextL s most).2.2) := by
  rw [takeN, if_pos h, pre, if_pos h]
theorem pre_step_ok (l : List (List UInt8)) (n : Nat) (s : List UInt8) (most : Int) (h : (takeTextL s most).2.2 = 0) : pre l (takeN (n + 1) s most) = pre (l ++ [(takeTextL s most).1]) (takeN n (takeTextL s most).2.1 most) := by
  rw [takeN, if_neg (by omega)]
  by_cases h2 : (takeN n (takeTextL s most).2.1 most).2.2 = 0
  · rw [if_neg (by omega)]
    simp [pre, h2]
  · rw [if_pos h2]
    simp [pre, h2]
theorem takeN_body (ss : List (List UInt8)) (h : ∀ t ∈ ss, t.length ≤ 65535) (most : Int) (hm : 65535 ≤ most) (more : List UInt8) : takeN ss.length (body ss ++ more) most = (ss, more, 0) := by
  induction ss with
  | nil => simp [takeN, body]
  | cons t r ih =>
    have h1 := h t (by simp)
    have h2 := ih (fun x hx => h x (by simp [hx]))
    have h3 := takeText_text t h1 most (by omega) (body r ++ more)
    rw [List.length_cons, takeN, body, List.append_assoc, h3]
    simp [h2]
theorem takeRow_row (ss : List (List UInt8)) (h : rowOk ss = true) (more : List UInt8) : takeRowL (lenL ss.length ++ body ss ++ more) ss.length 65535 = (ss, more, 0) := by
  rw [rowOk_iff] at h
  unfold takeRowL
  rw [List.append_assoc, takeLen_len ss.length h.1 ss.length (Int.le_refl _)]
  simp [takeN_body ss h.2 65535 (Int.le_refl _) more]
theorem row_inj (a b : List (List UInt8)) (ha : rowOk a = true) (hb : rowOk b = true) : lenL a.length ++ body a = lenL b.length ++ body b ↔ a = b := by
  constructor
  · intro h
    have h1 := takeRow_row a ha []
    have h2 := takeRow_row b hb []
    simp only [List.append_nil] at h1 h2
    have e1 := size_len a.length ((rowOk_iff a).1 ha).1 (body a)
    have e2 := size_len b.length ((rowOk_iff b).1 hb).1 (body b)
    rw [h, e2] at e1
    simp only [Prod.mk.injEq] at e1
    rw [h, ← e1.1] at h1
    rw [h1] at h2
    simp only [Prod.mk.injEq] at h2
    exact h2.1
  · rintro rfl; rfl
/-! ### Of a row's bytes no beginning is one -/
theorem takeText_short (t : List UInt8) (h : t.length ≤ 65535) (c : Nat) (hc : c < (lenL t.length ++ t).length) (most : Int) (hm : 65535 ≤ most) : (takeTextL ((lenL t.length ++ t).take c) most).2.2 = 2 := by
  by_cases hc2 : (lenL t.length).length ≤ c
  · have e : (lenL t.length ++ t).take c = lenL t.length ++ t.take (c - (lenL t.length).length) := by
      rw [List.take_append, List.take_of_length_le hc2]
    rw [e]
    simp only [takeTextL, takeLen_len t.length h most (by omega)]
    simp only [List.length_append] at hc
    have : (t.take (c - (lenL t.length).length)).length < t.length := by simp; omega
    rw [if_neg (by simp), if_pos this]
  · have hsz : sizeL ((lenL t.length ++ t).take c) = (0, [], 2) := by
      rw [List.take_append_of_le_length (by omega)]
      unfold lenL at hc2 ⊢
      by_cases h1 : t.length ≤ 250
      · rw [if_pos h1] at hc2 ⊢
        have : c = 0 := by simp at hc2; exact hc2
        subst this; rfl
      · rw [if_neg h1] at hc2 ⊢
        have : c = 0 ∨ c = 1 ∨ c = 2 := by simp at hc2; omega
        rcases this with rfl | rfl | rfl
        · rfl
        · rfl
        · rfl
    simp [takeTextL, takeLenL, hsz]
theorem takeLen_short (n : Nat) (c : Nat) (hc : c < (lenL n).length) (most : Int) : takeLenL ((lenL n).take c) most = (0, [], 2) := by
  have hsz : sizeL ((lenL n).take c) = (0, [], 2) := by
    unfold lenL at hc ⊢
    by_cases h1 : n ≤ 250
    · rw [if_pos h1] at hc ⊢
      have : c = 0 := by simp at hc; exact hc
      subst this; rfl
    · rw [if_neg h1] at hc ⊢
      have : c = 0 ∨ c = 1 ∨ c = 2 := by simp at hc; omega
      rcases this with rfl | rfl | rfl
      · rfl
      · rfl
      · rfl
  simp [takeLenL, hsz]
theorem takeN_short (ss : List (List UInt8)) (h : ∀ t ∈ ss, t.length ≤ 65535) (c : Nat) (hc : c < (body ss).length) (most : Int) (hm : 65535 ≤ most) : (takeN ss.length ((body ss).take c) most).2.2 = 2 := by
  induction ss generalizing c with
  | nil => simp [body] at hc
  | cons t r ih =>
    have h1 := h t (by simp)
    rw [List.length_cons, takeN, body]
    by_cases hc2 : c < (lenL t.length ++ t).length
    · rw [List.take_append_of_le_length (by omega)]
      have h2 := takeText_short t h1 c hc2 most hm
      simp [h2]
    · have e : (lenL t.length ++ t ++ body r).take c = lenL t.length ++ t ++ (body r).take (c - (lenL t.length ++ t).length) := by
        rw [List.take_append, List.take_of_length_le (by omega)]
      rw [e, takeText_text t h1 most (by omega)]
      have hc' : c - (lenL t.length ++ t).length < (body r).length := by
        rw [body] at hc; simp only [List.length_append] at hc hc2 ⊢; omega
      have h3 := ih (fun x hx => h x (by simp [hx])) _ hc'
      simp only [h3]
      simp
theorem takeRow_short (ss : List (List UInt8)) (h : rowOk ss = true) (c : Nat) (hc : c < (lenL ss.length ++ body ss).length) : (takeRowL ((lenL ss.length ++ body ss).take c) ss.length 65535).2.2 = 2 := by
  rw [rowOk_iff] at h
  unfold takeRowL
  by_cases hc2 : c < (lenL ss.length).length
  · rw [List.take_append_of_le_length (by omega), takeLen_short ss.length c hc2]
    simp
  · have e : (lenL ss.length ++ body ss).take c = lenL ss.length ++ (body ss).take (c - (lenL ss.length).length) := by
      rw [List.take_append, List.take_of_length_le (by omega)]
    rw [e, takeLen_len ss.length h.1 ss.length (Int.le_refl _)]
    simp only [List.length_append] at hc
    have := takeN_short ss h.2 (c - (lenL ss.length).length) (by omega) 65535 (Int.le_refl _)
    simp [this]
theorem takeNum_short (v : Nat) (c : Nat) (hc : c < (numL v).length) : (takeNumL ((numL v).take c)).2.2 = 2 := by
  rw [numL_length] at hc
  unfold numL
  cases c with
  | zero => rfl
  | succ c =>
    rw [List.take_succ_cons, takeNumL, ofNat_cnt]
    have h8 := cnt_le v
    have hl : ((low (cnt v) v).take c).length < cnt v := by simp [low_length]; omega
    rw [if_neg (by omega), if_pos hl]
end Go.Proofs.Ytljgflgfcbmgiaa.Lm
namespace Go.Proofs.Ytljgflgfcbmgiaa
set_option maxRecDepth 100000
theorem sizeL_bd (l : List UInt8) : (Lm.sizeL l).1 ≤ 65535 ∧ (Lm.sizeL l).2.1.length ≤ l.length := by
  unfold Lm.sizeL
  split
  · simp
  · rename_i n r
    have := n.toNat_lt
    split
    · simp; omega
    · split
      · simp
      · split
        · rename_i a b r'
          have := a.toNat_lt
          have := b.toNat_lt
          split <;> simp <;> omega
        · simp
theorem takeLenL_bd (l : List UInt8) (most : Int) : (Lm.takeLenL l most).1 ≤ 65535 ∧ (Lm.takeLenL l most).2.1.length ≤ l.length := by
  have := sizeL_bd l
  unfold Lm.takeLenL
  split
  · simp
  · split
    · simp
    · exact this
theorem takeTextL_bd (l : List UInt8) (most : Int) : (Lm.takeTextL l most).1.length ≤ 65535 ∧ (Lm.takeTextL l most).2.1.length ≤ l.length := by
  have := takeLenL_bd l most
  unfold Lm.takeTextL
  split
  · simp
  · split
    · simp
    · simp; omega
end Go.Proofs.Ytljgflgfcbmgiaa
namespace Go.Proofs.Ytljgflgfcbmgiaa
set_option maxRecDepth 100000
set_option linter.unusedVariables false
/-- An event: kind, transaction, key, value. -/
abbrev Ev := Int × Int × List UInt8 × List UInt8
abbrev keyedE (k : Int) : Prop := k = 2 ∨ k = 3
abbrev mayE (x : Ev) : Prop := (1 ≤ x.1 ∧ x.1 ≤ 5 ∧ 1 ≤ x.2.1 ∧ x.2.1 ≤ 32) ∧ (if keyedE x.1 then (1 ≤ x.2.2.1.length ∧ x.2.2.1.length ≤ 32 ∧ x.2.2.2.length ≤ 32 ∧ (x.1 = 2 ∨ 1 ≤ x.2.2.2.length)) else (x.2.2.1 = [] ∧ x.2.2.2 = []))
def txtE (t : List UInt8) : List UInt8 := Lm.lenL t.length ++ t
/-- The bytes of an event that may be. -/
def bytE (x : Ev) : List UInt8 := UInt8.ofNat x.1.toNat :: UInt8.ofNat x.2.1.toNat :: (if keyedE x.1 then txtE x.2.2.1 ++ txtE x.2.2.2 else [])
def bytesE (x : Ev) : List UInt8 × Nat := if mayE x then (bytE x, 0) else ([], 1)
/-- The event of bytes. -/
def takeE (s : List UInt8) : Option Ev :=
  match s with
  | a :: b :: r =>
    if keyedE (a.toNat : Int) then
      if (Lm.takeTextL r 32).2.2 ≠ 0 then none
      else if (Lm.takeTextL (Lm.takeTextL r 32).2.1 32).2.2 ≠ 0 ∨ 0 < (Lm.takeTextL (Lm.takeTextL r 32).2.1 32).2.1.length then none
      else if mayE ((a.toNat : Int), (b.toNat : Int), (Lm.takeTextL r 32).1, (Lm.takeTextL (Lm.takeTextL r 32).2.1 32).1) then some ((a.toNat : Int), (b.toNat : Int), (Lm.takeTextL r 32).1, (Lm.takeTextL (Lm.takeTextL r 32).2.1 32).1) else none
    else if 0 < r.length ∨ ¬ mayE ((a.toNat : Int), (b.toNat : Int), [], []) then none else some ((a.toNat : Int), (b.toNat : Int), [], [])
  | _ => none
theorem size_take (s : List UInt8) (n : Nat) (r : List UInt8) (h : Lm.sizeL s = (n, r, 0)) : Lm.lenL n ++ r = s ∧ n ≤ 65535 := by
  unfold Lm.sizeL at h
  match s, h with
  | [], h => simp at h
  | c :: q, h =>
    simp only at h
    by_cases h1 : c.toNat ≤ 250
    · rw [if_pos h1] at h
      simp only [Prod.mk.injEq] at h
      obtain ⟨rfl, rfl, _⟩ := h
      unfold Lm.lenL
      rw [if_pos h1]
      exact ⟨by simp, by omega⟩
    · rw [if_neg h1] at h
      by_cases h2 : 251 < c.toNat
      · rw [if_pos h2] at h; simp at h
      · rw [if_neg h2] at h
        have hc : c = 251 := by apply UInt8.toNat_inj.1; show c.toNat = 251; omega
        match q, h with
        | [], h => simp at h
        | [_], h => simp at h
        | a :: b :: q', h =>
          simp only at h
          have ha := a.toNat_lt
          have hb := b.toNat_lt
          by_cases h3 : 256 * a.toNat + b.toNat ≤ 250
          · rw [if_pos h3] at h; simp at h
          · rw [if_neg h3] at h
            simp only [Prod.mk.injEq] at h
            obtain ⟨rfl, rfl, _⟩ := h
            unfold Lm.lenL
            rw [if_neg h3, hc]
            refine ⟨?_, by omega⟩
            have e1 : UInt8.ofNat ((256 * a.toNat + b.toNat) / 256) = a := by apply UInt8.toNat_inj.1; rw [UInt8.toNat_ofNat']; omega
            have e2 : UInt8.ofNat ((256 * a.toNat + b.toNat) % 256) = b := by apply UInt8.toNat_inj.1; rw [UInt8.toNat_ofNat']; omega
            rw [e1, e2]; rfl
theorem text_take (s t r : List UInt8) (most : Int) (h : Lm.takeTextL s most = (t, r, 0)) : Lm.lenL t.length ++ t ++ r = s ∧ t.length ≤ 65535 ∧ (t.length : Int) ≤ most := by
  unfold Lm.takeTextL at h
  by_cases h1 : (Lm.takeLenL s most).2.2 ≠ 0
  · rw [if_pos h1] at h; simp only [Prod.mk.injEq] at h; exact absurd h.2.2 h1
  · rw [if_neg h1] at h
    by_cases h2 : (Lm.takeLenL s most).2.1.length < (Lm.takeLenL s most).1
    · rw [if_pos h2] at h; simp at h
    · rw [if_neg h2] at h
      simp only [Prod.mk.injEq] at h
      obtain ⟨rfl, rfl, _⟩ := h
      have hL : Lm.takeLenL s most = Lm.sizeL s ∧ (Lm.sizeL s).2.2 = 0 ∧ ((Lm.sizeL s).1 : Int) ≤ most := by
        unfold Lm.takeLenL at h1 ⊢
        by_cases h3 : (Lm.sizeL s).2.2 ≠ 0
        · rw [if_pos h3] at h1; simp at h1; exact absurd h1 h3
        · rw [if_neg h3] at h1 ⊢
          by_cases h4 : most < (Lm.sizeL s).1
          · rw [if_pos h4] at h1; simp at h1
          · rw [if_neg h4]; exact ⟨rfl, by omega, by omega⟩
      rw [hL.1] at h2 ⊢
      have hz := size_take s (Lm.sizeL s).1 (Lm.sizeL s).2.1 (by rw [← hL.2.1])
      have hn : ((Lm.sizeL s).2.1.take (Lm.sizeL s).1).length = (Lm.sizeL s).1 := by rw [List.length_take]; omega
      rw [hn, List.append_assoc, List.take_append_drop]
      exact ⟨hz.1, hz.2, hL.2.2⟩
theorem txt_taken (t : List UInt8) (h : t.length ≤ 32) (r : List UInt8) : Lm.takeTextL (txtE t ++ r) 32 = (t, r, 0) := Lm.takeText_text t (by omega) 32 (by omega) r
theorem may_bytes (x : Ev) (h : mayE x) : (UInt8.ofNat x.1.toNat).toNat = x.1.toNat ∧ (UInt8.ofNat x.2.1.toNat).toNat = x.2.1.toNat ∧ ((x.1.toNat : Nat) : Int) = x.1 ∧ ((x.2.1.toNat : Nat) : Int) = x.2.1 := by
  obtain ⟨⟨h1, h2, h3, h4⟩, _⟩ := h
  refine ⟨?_, ?_, by omega, by omega⟩
  · simp; omega
  · simp; omega
/-- What was written is taken, with nothing behind. -/
theorem take_byt (x : Ev) (h : mayE x) (m : List UInt8) : takeE (bytE x ++ m) = if m = [] then some x else none := by
  obtain ⟨e1, e2, e3, e4⟩ := may_bytes x h
  have hx : x = (x.1, x.2.1, x.2.2.1, x.2.2.2) := rfl
  unfold bytE takeE
  by_cases hk : keyedE x.1
  · rw [if_pos hk]
    obtain ⟨h0, h5⟩ := h
    have h5' := h5
    rw [if_pos hk] at h5
    obtain ⟨k1, k2, k3, k4⟩ := h5
    simp only [List.cons_append, e1, e2, e3, e4]
    rw [if_pos hk, List.append_assoc, txt_taken x.2.2.1 k2]
    simp only
    rw [if_neg (by simp), txt_taken x.2.2.2 k3 m]
    simp only
    by_cases hm : m = []
    · subst hm
      rw [if_neg (by simp), if_pos ⟨h0, h5'⟩, if_pos rfl]
    · rw [if_pos (Or.inr (List.length_pos_iff.2 hm)), if_neg hm]
  · rw [if_neg hk]
    obtain ⟨h0, h5⟩ := h
    have h5' := h5
    rw [if_neg hk] at h5
    simp only [List.cons_append, List.nil_append, e1, e2, e3, e4]
    rw [if_neg hk]
    have ex : (x.1, x.2.1, ([] : List UInt8), ([] : List UInt8)) = x := by rw [hx]; simp only [h5.1, h5.2]
    by_cases hm : m = []
    · subst hm
      rw [if_neg (by intro hh; rcases hh with hh | hh; simp at hh; exact hh (by rw [ex]; exact ⟨h0, h5'⟩)), if_pos rfl, ex]
    · rw [if_pos (Or.inl (List.length_pos_iff.2 hm)), if_neg hm]
/-- What is taken may be, and is written by the same bytes. -/
theorem byt_take (s : List UInt8) (x : Ev) (h : takeE s = some x) : mayE x ∧ bytE x = s := by
  unfold takeE at h
  match s, h with
  | [], h => cases h
  | [_], h => cases h
  | a :: b :: r, h =>
    simp only at h
    by_cases hk : keyedE (a.toNat : Int)
    · rw [if_pos hk] at h
      by_cases h1 : (Lm.takeTextL r 32).2.2 ≠ 0
      · rw [if_pos h1] at h; cases h
      · rw [if_neg h1] at h
        by_cases h2 : (Lm.takeTextL (Lm.takeTextL r 32).2.1 32).2.2 ≠ 0 ∨ 0 < (Lm.takeTextL (Lm.takeTextL r 32).2.1 32).2.1.length
        · rw [if_pos h2] at h; cases h
        · rw [if_neg h2] at h
          by_cases h3 : mayE ((a.toNat : Int), (b.toNat : Int), (Lm.takeTextL r 32).1, (Lm.takeTextL (Lm.takeTextL r 32).2.1 32).1)
          · rw [if_pos h3] at h
            cases h
            refine ⟨h3, ?_⟩
            have t1 := text_take r (Lm.takeTextL r 32).1 (Lm.takeTextL r 32).2.1 32 (by rw [show (0 : Nat) = (Lm.takeTextL r 32).2.2 by omega])
            have t2 := text_take (Lm.takeTextL r 32).2.1 (Lm.takeTextL (Lm.takeTextL r 32).2.1 32).1 (Lm.takeTextL (Lm.takeTextL r 32).2.1 32).2.1 32 (by rw [show (0 : Nat) = (Lm.takeTextL (Lm.takeTextL r 32).2.1 32).2.2 by omega])
            have t3 : (Lm.takeTextL (Lm.takeTextL r 32).2.1 32).2.1 = [] := List.length_eq_zero_iff.1 (by omega)
            rw [t3, List.append_nil] at t2
            unfold bytE
            simp only
            rw [if_pos hk]
            have ea : UInt8.ofNat ((a.toNat : Int).toNat) = a := by simp
            have eb : UInt8.ofNat ((b.toNat : Int).toNat) = b := by simp
            rw [ea, eb]
            unfold txtE
            rw [t2.1, t1.1]
          · rw [if_neg h3] at h; cases h
    · rw [if_neg hk] at h
      by_cases h1 : 0 < r.length ∨ ¬ mayE ((a.toNat : Int), (b.toNat : Int), [], [])
      · rw [if_pos h1] at h; cases h
      · rw [if_neg h1] at h
        cases h
        have hm : mayE ((a.toNat : Int), (b.toNat : Int), [], []) := Classical.byContradiction fun hh => h1 (Or.inr hh)
        refine ⟨hm, ?_⟩
        have hr : r = [] := List.length_eq_zero_iff.1 (by omega)
        unfold bytE
        simp only
        rw [if_neg hk, hr]
        have ea : UInt8.ofNat ((a.toNat : Int).toNat) = a := by simp
        have eb : UInt8.ofNat ((b.toNat : Int).toNat) = b := by simp
        rw [ea, eb]
theorem byt_inj (x y : Ev) (hx : mayE x) (hy : mayE y) (h : bytE x = bytE y) : x = y := by
  have h1 := take_byt x hx []
  have h2 := take_byt y hy []
  rw [List.append_nil, if_pos rfl] at h1 h2
  rw [h, h2] at h1
  exact (Option.some.inj h1).symm
/-- Of what was written no beginning is taken. -/
theorem take_cut (x : Ev) (hx : mayE x) (c : Nat) (hc : c < (bytE x).length) : takeE ((bytE x).take c) = none := by
  cases hy : takeE ((bytE x).take c) with
  | none => rfl
  | some y =>
    obtain ⟨my, by'⟩ := byt_take _ y hy
    exfalso
    have h1 := take_byt y my ((bytE x).drop c)
    rw [by', List.take_append_drop] at h1
    have h2 := take_byt x hx []
    rw [List.append_nil, if_pos rfl] at h2
    rw [if_neg (by intro h; have := congrArg List.length h; rw [List.length_drop] at this; simp at this; omega)] at h1
    rw [h1] at h2
    cases h2
end Go.Proofs.Ytljgflgfcbmgiaa
namespace Go.Proofs.Ytljgflgfcbmgiaa
set_option maxRecDepth 100000
set_option linter.unusedVariables false
/-- The first number below n of which p says so; the last one. -/
def fi (p : Nat → Bool) (n : Nat) : Option Nat := (List.range n).find? p
def la (p : Nat → Bool) : Nat → Option Nat
  | 0 => none
  | n + 1 => if p n = true then some n else la p n
theorem fi_zero (p : Nat → Bool) : fi p 0 = none := rfl
theorem fi_succ (p : Nat → Bool) (n : Nat) : fi p (n + 1) = (fi p n).or (if p n = true then some n else none) := by
  unfold fi
  rw [List.range_succ, List.find?_append]
  congr 1
  by_cases h : p n = true
  · rw [if_pos h, List.find?_cons_of_pos h]
  · rw [if_neg h, List.find?_cons_of_neg h]; rfl
theorem fi_none (p : Nat → Bool) (n : Nat) : fi p n = none ↔ ∀ i, i < n → p i = false := by
  unfold fi
  rw [List.find?_eq_none]
  constructor
  · intro h i hi
    have := h i (List.mem_range.2 hi)
    simpa using this
  · intro h i hi
    have := h i (List.mem_range.1 hi)
    simp [this]
theorem fi_some (p : Nat → Bool) : ∀ (n i : Nat), fi p n = some i ↔ i < n ∧ p i = true ∧ ∀ j, j < i → p j = false
  | 0, i => by rw [fi_zero]; constructor; intro h; cases h; intro h; omega
  | n + 1, i => by
    rw [fi_succ]
    cases hf : fi p n with
    | none =>
      have hn := (fi_none p n).1 hf
      rw [Option.none_or]
      by_cases h : p n = true
      · rw [if_pos h]
        constructor
        · intro e; cases e; exact ⟨by omega, h, hn⟩
        · intro ⟨h1, h2, h3⟩
          rcases Nat.lt_or_ge i n with hi | hi
          · have := hn i hi; rw [h2] at this; cases this
          · rw [show i = n by omega]
      · rw [if_neg h]
        constructor
        · intro e; cases e
        · intro ⟨h1, h2, h3⟩
          rcases Nat.lt_or_ge i n with hi | hi
          · have := hn i hi; rw [h2] at this; cases this
          · rw [show i = n by omega] at h2; exact absurd h2 h
    | some k =>
      have hk := (fi_some p n k).1 hf
      rw [Option.some_or]
      constructor
      · intro e; cases e; exact ⟨by omega, hk.2.1, hk.2.2⟩
      · intro ⟨h1, h2, h3⟩
        rcases Nat.lt_trichotomy i k with hi | hi | hi
        · have := hk.2.2 i hi; rw [h2] at this; cases this
        · rw [hi]
        · have := h3 k hi; rw [hk.2.1] at this; cases this
theorem fi_congr {p q : Nat → Bool} {n : Nat} (h : ∀ i, i < n → p i = q i) : fi p n = fi q n := by
  cases hf : fi q n with
  | none => rw [fi_none] at hf ⊢; intro i hi; rw [h i hi]; exact hf i hi
  | some k =>
    rw [fi_some] at hf ⊢
    exact ⟨hf.1, by rw [h k hf.1]; exact hf.2.1, fun j hj => by rw [h j (by omega)]; exact hf.2.2 j hj⟩
theorem la_some (p : Nat → Bool) : ∀ (n i : Nat), la p n = some i ↔ i < n ∧ p i = true ∧ ∀ j, i < j → j < n → p j = false
  | 0, i => by rw [la]; constructor; intro h; cases h; intro h; omega
  | n + 1, i => by
    rw [la]
    by_cases h : p n = true
    · rw [if_pos h]
      constructor
      · intro e; cases e; exact ⟨by omega, h, fun j h1 h2 => by omega⟩
      · intro ⟨h1, h2, h3⟩
        rcases Nat.lt_or_ge i n with hi | hi
        · have := h3 n hi (by omega); rw [h] at this; cases this
        · rw [show i = n by omega]
    · rw [if_neg h, la_some p n i]
      constructor
      · intro ⟨h1, h2, h3⟩
        refine ⟨by omega, h2, fun j hj hn => ?_⟩
        rcases Nat.lt_or_ge j n with hjn | hjn
        · exact h3 j hj hjn
        · rw [show j = n by omega]; simpa using h
      · intro ⟨h1, h2, h3⟩
        rcases Nat.lt_or_ge i n with hi | hi
        · exact ⟨hi, h2, fun j hj hn => h3 j hj (by omega)⟩
        · rw [show i = n by omega] at h2; exact absurd h2 h
theorem la_none (p : Nat → Bool) : ∀ (n : Nat), la p n = none ↔ ∀ i, i < n → p i = false
  | 0 => by rw [la]; exact ⟨fun _ i hi => by omega, fun _ => rfl⟩
  | n + 1 => by
    rw [la]
    by_cases h : p n = true
    · rw [if_pos h]
      constructor
      · intro e; cases e
      · intro hh; have := hh n (by omega); rw [h] at this; cases this
    · rw [if_neg h, la_none p n]
      constructor
      · intro hh i hi
        rcases Nat.lt_or_ge i n with hin | hin
        · exact hh i hin
        · rw [show i = n by omega]; simpa using h
      · intro hh i hi; exact hh i (by omega)
def oI : Option Nat → Int
  | none => -1
  | some i => (i : Int)
/-- The event at a place. -/
def ev (h : List Ev) (i : Nat) : Ev := h.getD i (0, 0, [], [])
theorem ev_get (h : List Ev) (i : Nat) (hi : i < h.length) : ev h i = h[i] := by unfold ev; rw [List.getD_eq_getElem?_getD, List.getElem?_eq_getElem hi]; rfl
theorem ev_left (a b : List Ev) (i : Nat) (hi : i < a.length) : ev (a ++ b) i = ev a i := by
  rw [ev_get _ _ (by rw [List.length_append]; omega), ev_get _ _ hi, List.getElem_append_left hi]
theorem ev_right (a b : List Ev) (i : Nat) (hi : i < b.length) : ev (a ++ b) (a.length + i) = ev b i := by
  rw [ev_get _ _ (by rw [List.length_append]; omega), ev_get _ _ hi, List.getElem_append_right (by omega)]
  congr 1; omega
theorem ev_take (h : List Ev) (n i : Nat) (hi : i < n) (hn : n ≤ h.length) : ev (h.take n) i = ev h i := by
  rw [ev_get _ _ (by rw [List.length_take]; omega), ev_get _ _ (by omega), List.getElem_take]
def isEnd (h : List Ev) (t : Int) (i : Nat) : Bool := decide ((ev h i).2.1 = t ∧ ((ev h i).1 = 4 ∨ (ev h i).1 = 5))
def endL (h : List Ev) (t : Int) (n : Nat) : Option Nat := fi (isEnd h t) n
def ofTxn (h : List Ev) (t : Int) (i : Nat) : Bool := decide ((ev h i).2.1 = t)
def fstL (h : List Ev) (t : Int) (n : Nat) : Option Nat := fi (ofTxn h t) n
def isWr (h : List Ev) (key val : List UInt8) (i : Nat) : Bool := decide ((ev h i).1 = 3 ∧ (ev h i).2.2.1 = key ∧ (ev h i).2.2.2 = val)
def writerL (h : List Ev) (key val : List UInt8) : Option Nat := fi (isWr h key val) h.length
def isWrT (h : List Ev) (t : Int) (key : List UInt8) (i : Nat) : Bool := decide ((ev h i).1 = 3 ∧ (ev h i).2.1 = t ∧ (ev h i).2.2.1 = key)
def lastN (h : List Ev) (t : Int) (key : List UInt8) (n : Nat) : Option Nat := la (isWrT h t key) n
def lastL (h : List Ev) (t : Int) (key : List UInt8) (before : Int) : Option Nat := lastN h t key (min h.length before.toNat)
def sameVal (h : List Ev) (v : List UInt8) (i : Nat) : Bool := decide ((ev h i).1 = 3 ∧ (ev h i).2.2.2 = v)
/-- What is wrong with the event at a place (0: nothing). -/
def formStep (h : List Ev) (i : Nat) : Nat :=
  if ¬ mayE (ev h i) then 1
  else if (ev h i).1 = 1 then (if fstL h (ev h i).2.1 i = none then 0 else 8)
  else if fstL h (ev h i).2.1 i = none then 7
  else if endL h (ev h i).2.1 i ≠ none then 9
  else if (ev h i).1 = 3 ∧ fi (sameVal h (ev h i).2.2.2) i ≠ none then 8
  else if (ev h i).1 = 2 ∧ (ev h i).2.2.2 ≠ [] ∧ writerL h (ev h i).2.2.1 (ev h i).2.2.2 = none then 7
  else 0
def wrongAt (h : List Ev) (i : Nat) : Bool := decide (formStep h i ≠ 0)
def openAt (h : List Ev) (i : Nat) : Bool := decide (endL h (ev h i).2.1 h.length = none)
def formedL (h : List Ev) : Nat × Nat :=
  if 256 < h.length then (0, 4) else
  match fi (wrongAt h) h.length with
  | some i => (i, formStep h i)
  | none => if fi (openAt h) h.length = none then (h.length, 0) else (h.length, 9)
/-- Well formed. -/
def WF (h : List Ev) : Prop := h.length ≤ 256 ∧ (∀ i, i < h.length → formStep h i = 0) ∧ ∀ i, i < h.length → endL h (ev h i).2.1 h.length ≠ none
theorem formed_ok (h : List Ev) : (formedL h).2 = 0 ↔ WF h := by
  unfold formedL WF
  by_cases h1 : 256 < h.length
  · rw [if_pos h1]
    constructor
    · intro e; cases e
    · intro e; omega
  · rw [if_neg h1]
    cases hf : fi (wrongAt h) h.length with
    | some i =>
      have hi := (fi_some _ _ _).1 hf
      have hw := of_decide_eq_true hi.2.1
      constructor
      · intro e; exact absurd e hw
      · intro e; exact absurd (e.2.1 i hi.1) hw
    | none =>
      have hn := (fi_none _ _).1 hf
      have hz : ∀ i, i < h.length → formStep h i = 0 := fun i hi => by
        have := of_decide_eq_false (hn i hi); omega
      simp only
      by_cases ho : fi (openAt h) h.length = none
      · rw [if_pos ho]
        have hoo := (fi_none _ _).1 ho
        constructor
        · intro _
          exact ⟨by omega, hz, fun i hi => of_decide_eq_false (hoo i hi)⟩
        · intro _; rfl
      · rw [if_neg ho]
        constructor
        · intro e; cases e
        · intro e
          exfalso
          apply ho
          rw [fi_none]
          intro i hi
          exact decide_eq_false (e.2.2 i hi)
theorem formed_wf (h : List Ev) (hw : WF h) : formedL h = (h.length, 0) := by
  have h2 := (formed_ok h).2 hw
  unfold formedL at h2 ⊢
  rw [if_neg (by have := hw.1; omega)] at h2 ⊢
  have hf : fi (wrongAt h) h.length = none := by
    rw [fi_none]; intro i hi; exact decide_eq_false (by rw [hw.2.1 i hi]; simp)
  rw [hf] at h2 ⊢
  simp only at h2 ⊢
  by_cases ho : fi (openAt h) h.length = none
  · rw [if_pos ho]
  · rw [if_neg ho] at h2; cases h2
theorem formStep_zero (h : List Ev) (i : Nat) : formStep h i = 0 ↔ mayE (ev h i) ∧ ((ev h i).1 = 1 → fstL h (ev h i).2.1 i = none) ∧ ((ev h i).1 ≠ 1 → fstL h (ev h i).2.1 i ≠ none ∧ endL h (ev h i).2.1 i = none ∧ ((ev h i).1 = 3 → fi (sameVal h (ev h i).2.2.2) i = none) ∧ ((ev h i).1 = 2 → (ev h i).2.2.2 ≠ [] → writerL h (ev h i).2.2.1 (ev h i).2.2.2 ≠ none)) := by
  unfold formStep
  by_cases hm : mayE (ev h i)
  · rw [if_neg (fun hh => hh hm)]
    by_cases h1 : (ev h i).1 = 1
    · rw [if_pos h1]
      by_cases hf : fstL h (ev h i).2.1 i = none
      · rw [if_pos hf]; exact ⟨fun _ => ⟨hm, fun _ => hf, fun hh => absurd h1 hh⟩, fun _ => rfl⟩
      · rw [if_neg hf]; exact ⟨fun e => (by cases e), fun e => absurd (e.2.1 h1) hf⟩
    · rw [if_neg h1]
      by_cases hf : fstL h (ev h i).2.1 i = none
      · rw [if_pos hf]; exact ⟨fun e => (by cases e), fun e => absurd hf (e.2.2 h1).1⟩
      · rw [if_neg hf]
        by_cases he : endL h (ev h i).2.1 i = none
        · rw [if_neg (fun hh => hh he)]
          by_cases h3 : (ev h i).1 = 3 ∧ fi (sameVal h (ev h i).2.2.2) i ≠ none
          · rw [if_pos h3]; exact ⟨fun e => (by cases e), fun e => absurd ((e.2.2 h1).2.2.1 h3.1) h3.2⟩
          · rw [if_neg h3]
            by_cases h2 : (ev h i).1 = 2 ∧ (ev h i).2.2.2 ≠ [] ∧ writerL h (ev h i).2.2.1 (ev h i).2.2.2 = none
            · rw [if_pos h2]; exact ⟨fun e => (by cases e), fun e => absurd h2.2.2 ((e.2.2 h1).2.2.2 h2.1 h2.2.1)⟩
            · rw [if_neg h2]
              refine ⟨fun _ => ⟨hm, fun hh => absurd hh h1, fun _ => ⟨hf, he, fun h3' => ?_, fun h2' hv hw => h2 ⟨h2', hv, hw⟩⟩⟩, fun _ => rfl⟩
              exact Classical.byContradiction fun hh => h3 ⟨h3', hh⟩
        · rw [if_pos he]; exact ⟨fun e => (by cases e), fun e => absurd (e.2.2 h1).2.1 he⟩
  · rw [if_pos hm]; exact ⟨fun e => (by cases e), fun e => absurd e.1 hm⟩
end Go.Proofs.Ytljgflgfcbmgiaa
namespace Go.Proofs.Ytljgflgfcbmgiaa
set_option maxRecDepth 100000
set_option linter.unusedVariables false
theorem fstL_none (h : List Ev) (t : Int) (n : Nat) : fstL h t n = none ↔ ∀ j, j < n → (ev h j).2.1 ≠ t := by
  unfold fstL; rw [fi_none]
  constructor
  · intro hh j hj; exact of_decide_eq_false (hh j hj)
  · intro hh j hj; exact decide_eq_false (hh j hj)
theorem fstL_some (h : List Ev) (t : Int) (n i : Nat) : fstL h t n = some i ↔ i < n ∧ (ev h i).2.1 = t ∧ ∀ j, j < i → (ev h j).2.1 ≠ t := by
  unfold fstL; rw [fi_some]
  constructor
  · intro ⟨a, b, c⟩; exact ⟨a, of_decide_eq_true b, fun j hj => of_decide_eq_false (c j hj)⟩
  · intro ⟨a, b, c⟩; exact ⟨a, decide_eq_true b, fun j hj => decide_eq_false (c j hj)⟩
abbrev endB (x : Ev) (t : Int) : Prop := x.2.1 = t ∧ (x.1 = 4 ∨ x.1 = 5)
theorem endL_none (h : List Ev) (t : Int) (n : Nat) : endL h t n = none ↔ ∀ j, j < n → ¬ endB (ev h j) t := by
  unfold endL; rw [fi_none]
  constructor
  · intro hh j hj; exact of_decide_eq_false (hh j hj)
  · intro hh j hj; exact decide_eq_false (hh j hj)
theorem endL_some (h : List Ev) (t : Int) (n i : Nat) : endL h t n = some i ↔ i < n ∧ endB (ev h i) t ∧ ∀ j, j < i → ¬ endB (ev h j) t := by
  unfold endL; rw [fi_some]
  constructor
  · intro ⟨a, b, c⟩; exact ⟨a, of_decide_eq_true b, fun j hj => of_decide_eq_false (c j hj)⟩
  · intro ⟨a, b, c⟩; exact ⟨a, decide_eq_true b, fun j hj => decide_eq_false (c j hj)⟩
theorem writerL_none (h : List Ev) (key val : List UInt8) : writerL h key val = none ↔ ∀ j, j < h.length → ¬ ((ev h j).1 = 3 ∧ (ev h j).2.2.1 = key ∧ (ev h j).2.2.2 = val) := by
  unfold writerL; rw [fi_none]
  constructor
  · intro hh j hj; exact of_decide_eq_false (hh j hj)
  · intro hh j hj; exact decide_eq_false (hh j hj)
theorem writerL_some (h : List Ev) (key val : List UInt8) (i : Nat) : writerL h key val = some i ↔ i < h.length ∧ ((ev h i).1 = 3 ∧ (ev h i).2.2.1 = key ∧ (ev h i).2.2.2 = val) ∧ ∀ j, j < i → ¬ ((ev h j).1 = 3 ∧ (ev h j).2.2.1 = key ∧ (ev h j).2.2.2 = val) := by
  unfold writerL; rw [fi_some]
  constructor
  · intro ⟨a, b, c⟩; exact ⟨a, of_decide_eq_true b, fun j hj => of_decide_eq_false (c j hj)⟩
  · intro ⟨a, b, c⟩; exact ⟨a, decide_eq_true b, fun j hj => decide_eq_false (c j hj)⟩
theorem lastN_some (h : List Ev) (t : Int) (key : List UInt8) (n i : Nat) : lastN h t key n = some i ↔ i < n ∧ ((ev h i).1 = 3 ∧ (ev h i).2.1 = t ∧ (ev h i).2.2.1 = key) ∧ ∀ j, i < j → j < n → ¬ ((ev h j).1 = 3 ∧ (ev h j).2.1 = t ∧ (ev h j).2.2.1 = key) := by
  unfold lastN; rw [la_some]
  constructor
  · intro ⟨a, b, c⟩; exact ⟨a, of_decide_eq_true b, fun j hj hn => of_decide_eq_false (c j hj hn)⟩
  · intro ⟨a, b, c⟩; exact ⟨a, decide_eq_true b, fun j hj hn => decide_eq_false (c j hj hn)⟩
theorem lastN_none (h : List Ev) (t : Int) (key : List UInt8) (n : Nat) : lastN h t key n = none ↔ ∀ j, j < n → ¬ ((ev h j).1 = 3 ∧ (ev h j).2.1 = t ∧ (ev h j).2.2.1 = key) := by
  unfold lastN; rw [la_none]
  constructor
  · intro hh j hj; exact of_decide_eq_false (hh j hj)
  · intro hh j hj; exact decide_eq_false (hh j hj)
theorem sameVal_none (h : List Ev) (v : List UInt8) (n : Nat) : fi (sameVal h v) n = none ↔ ∀ j, j < n → ¬ ((ev h j).1 = 3 ∧ (ev h j).2.2.2 = v) := by
  rw [fi_none]
  constructor
  · intro hh j hj; exact of_decide_eq_false (hh j hj)
  · intro hh j hj; exact decide_eq_false (hh j hj)
/-- A transaction's life: number, first place, end, whether it was committed. -/
def findL (h : List Ev) (t : Int) : Option (Int × Nat × Nat × Bool) :=
  match fstL h t h.length with
  | none => none
  | some f => match endL h t h.length with
    | none => some (t, f, h.length, false)
    | some e => some (t, f, e, decide ((ev h e).1 = 4))
def livesL (h : List Ev) : List (Int × Nat × Nat × Bool) := (List.range h.length).filterMap fun i => if fstL h (ev h i).2.1 i = none then findL h (ev h i).2.1 else none
/-- Is the end of a committed transaction that wrote the key. -/
def verOf (h : List Ev) (key : List UInt8) (i : Nat) : Option Nat := if (ev h i).1 = 4 ∧ endL h (ev h i).2.1 h.length = some i then lastN h (ev h i).2.1 key i else none
def versL (h : List Ev) (key : List UInt8) : List Nat := (List.range h.length).filterMap (verOf h key)
section
variable {h : List Ev}
theorem wf_may (hw : WF h) {i : Nat} (hi : i < h.length) : mayE (ev h i) := ((formStep_zero h i).1 (hw.2.1 i hi)).1
theorem wf_first (hw : WF h) {i j : Nat} (hi : i < h.length) (h1 : (ev h i).1 = 1) (hj : j < i) : (ev h j).2.1 ≠ (ev h i).2.1 := (fstL_none _ _ _).1 (((formStep_zero h i).1 (hw.2.1 i hi)).2.1 h1) j hj
theorem wf_had (hw : WF h) {i : Nat} (hi : i < h.length) (h1 : (ev h i).1 ≠ 1) : ∃ j, j < i ∧ (ev h j).2.1 = (ev h i).2.1 := by
  have := (((formStep_zero h i).1 (hw.2.1 i hi)).2.2 h1).1
  cases hf : fstL h (ev h i).2.1 i with
  | none => exact absurd hf this
  | some j => have := (fstL_some _ _ _ _).1 hf; exact ⟨j, this.1, this.2.1⟩
theorem wf_open (hw : WF h) {i j : Nat} (hi : i < h.length) (hj : j < i) : ¬ endB (ev h j) (ev h i).2.1 := by
  by_cases h1 : (ev h i).1 = 1
  · intro he; exact wf_first hw hi h1 hj he.1
  · exact (endL_none _ _ _).1 (((formStep_zero h i).1 (hw.2.1 i hi)).2.2 h1).2.1 j hj
theorem wf_vals (hw : WF h) {i j : Nat} (hi : i < h.length) (h3 : (ev h i).1 = 3) (hj : j < i) (h3' : (ev h j).1 = 3) : (ev h j).2.2.2 ≠ (ev h i).2.2.2 := by
  intro he
  exact (sameVal_none _ _ _).1 ((((formStep_zero h i).1 (hw.2.1 i hi)).2.2 (by rw [h3]; decide)).2.2.1 h3) j hj ⟨h3', he⟩
theorem wf_read (hw : WF h) {i : Nat} (hi : i < h.length) (h2 : (ev h i).1 = 2) (hv : (ev h i).2.2.2 ≠ []) : ∃ j, writerL h (ev h i).2.2.1 (ev h i).2.2.2 = some j := by
  have := (((formStep_zero h i).1 (hw.2.1 i hi)).2.2 (by rw [h2]; decide)).2.2.2 h2 hv
  cases hf : writerL h (ev h i).2.2.1 (ev h i).2.2.2 with
  | none => exact absurd hf this
  | some j => exact ⟨j, rfl⟩
/-- Each transaction has one beginning ahead of all its events, and one end behind them. -/
theorem wf_life (hw : WF h) {i : Nat} (hi : i < h.length) : ∃ f e, fstL h (ev h i).2.1 h.length = some f ∧ endL h (ev h i).2.1 h.length = some e ∧ f ≤ i ∧ i ≤ e ∧ e < h.length ∧ ((ev h i).1 = 1 ↔ i = f) ∧ (4 ≤ (ev h i).1 ↔ i = e) := by
  cases hf : fstL h (ev h i).2.1 h.length with
  | none => exact absurd rfl ((fstL_none _ _ _).1 hf i hi)
  | some f =>
    cases he : endL h (ev h i).2.1 h.length with
    | none => exact absurd he (hw.2.2 i hi)
    | some e =>
      obtain ⟨f1, f2, f3⟩ := (fstL_some _ _ _ _).1 hf
      obtain ⟨e1, e2, e3⟩ := (endL_some _ _ _ _).1 he
      have hfi : f ≤ i := Nat.le_of_not_lt fun hh => f3 i hh rfl
      have hie : i ≤ e := Nat.le_of_not_lt fun hh => wf_open hw hi hh e2
      refine ⟨f, e, rfl, rfl, hfi, hie, e1, ⟨fun h1 => ?_, fun h1 => ?_⟩, ⟨fun h4 => ?_, fun h4 => ?_⟩⟩
      · rcases Nat.lt_or_ge f i with hh | hh
        · exact absurd f2 (wf_first hw hi h1 hh)
        · omega
      · apply Classical.byContradiction
        intro hn
        obtain ⟨j, hj, hjt⟩ := wf_had hw hi hn
        exact f3 j (by omega) hjt
      · have hm := wf_may hw hi
        have hb : endB (ev h i) (ev h i).2.1 := ⟨rfl, by have := hm.1; omega⟩
        rcases Nat.lt_or_ge i e with hh | hh
        · exact absurd hb (e3 i hh)
        · omega
      · subst h4
        rcases e2.2 with hh | hh <;> rw [hh] <;> decide
theorem wf_find (hw : WF h) {i : Nat} (hi : i < h.length) : ∃ f e, findL h (ev h i).2.1 = some ((ev h i).2.1, f, e, decide ((ev h e).1 = 4)) ∧ f ≤ i ∧ i ≤ e ∧ e < h.length ∧ ((ev h i).1 = 1 ↔ i = f) ∧ (4 ≤ (ev h i).1 ↔ i = e) ∧ endL h (ev h i).2.1 h.length = some e := by
  obtain ⟨f, e, h1, h2, h3, h4, h5, h6, h7⟩ := wf_life hw hi
  exact ⟨f, e, by unfold findL; rw [h1, h2], h3, h4, h5, h6, h7, h2⟩
end
theorem verOf_some {h : List Ev} {key : List UInt8} {i k : Nat} (hv : verOf h key i = some k) : (ev h i).1 = 4 ∧ endL h (ev h i).2.1 h.length = some i ∧ k < i ∧ (ev h k).1 = 3 ∧ (ev h k).2.1 = (ev h i).2.1 ∧ (ev h k).2.2.1 = key ∧ ∀ j, k < j → j < i → ¬ ((ev h j).1 = 3 ∧ (ev h j).2.1 = (ev h i).2.1 ∧ (ev h j).2.2.1 = key) := by
  unfold verOf at hv
  by_cases hc : (ev h i).1 = 4 ∧ endL h (ev h i).2.1 h.length = some i
  · rw [if_pos hc] at hv
    obtain ⟨a, b, c⟩ := (lastN_some _ _ _ _ _).1 hv
    exact ⟨hc.1, hc.2, a, b.1, b.2.1, b.2.2, c⟩
  · rw [if_neg hc] at hv; cases hv
/-- The ends that versions come from, in the order of the versions. -/
def srcL (h : List Ev) (key : List UInt8) : List Nat := (List.range h.length).filter fun i => (verOf h key i).isSome
theorem filterMap_filter {α β : Type} (f : α → Option β) (d : β) : ∀ l : List α, l.filterMap f = (l.filter fun i => (f i).isSome).map fun i => (f i).getD d
  | [] => rfl
  | x :: l => by
    cases hx : f x with
    | none => rw [List.filterMap_cons_none hx, List.filter_cons_of_neg (by simp [hx]), filterMap_filter f d l]
    | some y => rw [List.filterMap_cons_some hx, List.filter_cons_of_pos (by simp [hx]), List.map_cons, hx, filterMap_filter f d l]; rfl
theorem vers_src (h : List Ev) (key : List UInt8) : versL h key = (srcL h key).map fun i => (verOf h key i).getD 0 := filterMap_filter _ _ _
theorem src_len (h : List Ev) (key : List UInt8) : (srcL h key).length = (versL h key).length := by rw [vers_src, List.length_map]
theorem src_sorted (h : List Ev) (key : List UInt8) : (srcL h key).Pairwise (· < ·) := List.Pairwise.filter _ List.pairwise_lt_range
theorem src_at (h : List Ev) (key : List UInt8) (j : Nat) (hj : j < (versL h key).length) : (srcL h key)[j]'(by rw [src_len]; exact hj) < h.length ∧ verOf h key ((srcL h key)[j]'(by rw [src_len]; exact hj)) = some (versL h key)[j] := by
  have hm := List.getElem_mem (l := srcL h key) (by rw [src_len]; exact hj : j < (srcL h key).length)
  unfold srcL at hm
  rw [List.mem_filter, List.mem_range] at hm
  refine ⟨hm.1, ?_⟩
  have e : (versL h key)[j] = (verOf h key ((srcL h key)[j]'(by rw [src_len]; exact hj))).getD 0 := by simp only [vers_src, List.getElem_map]
  rw [e]
  obtain ⟨y, hy⟩ := Option.isSome_iff_exists.1 hm.2
  have hy' : verOf h key ((srcL h key)[j]'(by rw [src_len]; exact hj)) = some y := hy
  rw [hy']; rfl
theorem vers_mem (h : List Ev) (key : List UInt8) (i k : Nat) (hi : i < h.length) (hv : verOf h key i = some k) : k ∈ versL h key := List.mem_filterMap.2 ⟨i, List.mem_range.2 hi, hv⟩
/-- A key's versions are writes of it by committed transactions, whose ends are the sources. -/
theorem vers_at {h : List Ev} (hw : WF h) (key : List UInt8) (j : Nat) (hj : j < (versL h key).length) : ∃ f, (versL h key)[j] < h.length ∧ (ev h (versL h key)[j]).1 = 3 ∧ (ev h (versL h key)[j]).2.2.1 = key ∧ findL h (ev h (versL h key)[j]).2.1 = some ((ev h (versL h key)[j]).2.1, f, (srcL h key)[j]'(by rw [src_len]; exact hj), true) := by
  obtain ⟨s1, s2⟩ := src_at h key j hj
  obtain ⟨a, b, c, d, e, f, _⟩ := verOf_some s2
  obtain ⟨f', e', g1, g2, g3, g4, g5, g6, g7⟩ := wf_find hw (show (versL h key)[j] < h.length by omega)
  refine ⟨f', by omega, d, f, ?_⟩
  rw [e] at g7
  rw [g7] at b
  cases b
  rw [g1, a]; rfl
/-- Each committed transaction that wrote the key has a version, no elder one. -/
theorem vers_has {h : List Ev} (hw : WF h) (key : List UInt8) (i : Nat) (hi : i < h.length) (h3 : (ev h i).1 = 3) (hk : (ev h i).2.2.1 = key) (f e : Nat) (hf : findL h (ev h i).2.1 = some ((ev h i).2.1, f, e, true)) : ∃ k, k ∈ versL h key ∧ (ev h k).2.1 = (ev h i).2.1 ∧ i ≤ k := by
  obtain ⟨f', e', g1, g2, g3, g4, g5, g6, g7⟩ := wf_find hw hi
  rw [hf] at g1
  simp only [Option.some.injEq, Prod.mk.injEq, true_and] at g1
  obtain ⟨rfl, rfl, h4⟩ := g1
  have h4' : (ev h e).1 = 4 := of_decide_eq_true h4.symm
  have hie : i ≠ e := fun he => by rw [he] at h3; rw [h3] at h4'; cases h4'
  have et := (endL_some _ _ _ _).1 g7
  cases hl : lastN h (ev h i).2.1 key e with
  | none => exact absurd ⟨h3, rfl, hk⟩ ((lastN_none _ _ _ _).1 hl i (by omega))
  | some k =>
    obtain ⟨l1, l2, l3⟩ := (lastN_some _ _ _ _ _).1 hl
    refine ⟨k, vers_mem h key e k g4 ?_, l2.2.1, Nat.le_of_not_lt fun hh => l3 i hh (by omega) ⟨h3, rfl, hk⟩⟩
    unfold verOf
    rw [et.2.1.1, if_pos ⟨h4', g7⟩]
    exact hl
end Go.Proofs.Ytljgflgfcbmgiaa
namespace Go.Proofs.Ytljgflgfcbmgiaa
set_option maxRecDepth 100000
set_option linter.unusedVariables false
theorem fstL_congr {h k : List Ev} {n : Nat} (he : ∀ j, j < n → ev h j = ev k j) (t : Int) : fstL h t n = fstL k t n := fi_congr fun i hi => by unfold ofTxn; rw [he i hi]
theorem endL_congr {h k : List Ev} {n : Nat} (he : ∀ j, j < n → ev h j = ev k j) (t : Int) : endL h t n = endL k t n := fi_congr fun i hi => by unfold isEnd; rw [he i hi]
/-- What is wrong with an event that is no read hangs on those ahead alone. -/
theorem formStep_congr {h k : List Ev} {i : Nat} (he : ∀ j, j ≤ i → ev h j = ev k j) (h2 : (ev h i).1 ≠ 2) : formStep h i = formStep k i := by
  have hi := he i (Nat.le_refl _)
  unfold formStep
  rw [← hi, fstL_congr (fun j hj => he j (by omega)), endL_congr (fun j hj => he j (by omega)), show fi (sameVal h (ev h i).2.2.2) i = fi (sameVal k (ev h i).2.2.2) i from fi_congr fun j hj => by unfold sameVal; rw [he j (by omega)]]
  rw [if_neg (c := (ev h i).1 = 2 ∧ (ev h i).2.2.2 ≠ [] ∧ writerL h (ev h i).2.2.1 (ev h i).2.2.2 = none) (fun hh => h2 hh.1), if_neg (c := (ev h i).1 = 2 ∧ (ev h i).2.2.2 ≠ [] ∧ writerL k (ev h i).2.2.1 (ev h i).2.2.2 = none) (fun hh => h2 hh.1)]
/-- With a transaction behind that only begins and ends. -/
theorem wf_grow {h : List Ev} (hw : WF h) (t k : Int) (ht : 1 ≤ t ∧ t ≤ 32) (hk : k = 4 ∨ k = 5) (hn : findL h t = none) (hl : h.length ≤ 254) : WF (h ++ [(1, t, [], []), (k, t, [], [])]) ∧ findL (h ++ [(1, t, [], []), (k, t, [], [])]) t = some (t, h.length, h.length + 1, decide (k = 4)) := by
  have hnone : ∀ j, j < h.length → (ev h j).2.1 ≠ t := by
    unfold findL at hn
    cases hf : fstL h t h.length with
    | none => exact (fstL_none _ _ _).1 hf
    | some f =>
      rw [hf] at hn
      simp only at hn
      cases he : endL h t h.length with
      | none => rw [he] at hn; cases hn
      | some e => rw [he] at hn; cases hn
  have hL : ∀ j, j < h.length → ev (h ++ [(1, t, [], []), (k, t, [], [])]) j = ev h j := fun j hj => ev_left _ _ _ hj
  have h0 : ev (h ++ [(1, t, [], []), (k, t, [], [])]) h.length = (1, t, [], []) := by have := ev_right h [(1, t, [], []), (k, t, [], [])] 0 (by simp); exact this
  have h1 : ev (h ++ [(1, t, [], []), (k, t, [], [])]) (h.length + 1) = (k, t, [], []) := by have := ev_right h [(1, t, [], []), (k, t, [], [])] 1 (by simp); exact this
  generalize hg : h ++ [(1, t, [], []), (k, t, [], [])] = g at *
  have hlen : g.length = h.length + 2 := by rw [← hg]; simp
  have hf1 : fstL g t g.length = some h.length := by
    rw [fstL_some]
    exact ⟨by omega, by rw [h0], fun j hj => by rw [hL j hj]; exact hnone j hj⟩
  have he1 : endL g t g.length = some (h.length + 1) := by
    rw [endL_some]
    refine ⟨by omega, by rw [h1]; exact ⟨rfl, hk⟩, fun j hj hb => ?_⟩
    rcases Nat.lt_or_ge j h.length with hjn | hjn
    · rw [hL j hjn] at hb; exact hnone j hjn hb.1
    · rw [show j = h.length by omega, h0] at hb
      rcases hb.2 with hb | hb <;> cases hb
  refine ⟨⟨by omega, fun i hi => ?_, fun i hi => ?_⟩, ?_⟩
  · rcases Nat.lt_or_ge i h.length with hin | hin
    · have hz := (formStep_zero h i).1 (hw.2.1 i hin)
      rw [formStep_zero, hL i hin]
      have hc : ∀ j, j < i → ev g j = ev h j := fun j hj => hL j (by omega)
      refine ⟨hz.1, fun e1 => ?_, fun e1 => ?_⟩
      · rw [fstL_congr hc]; exact hz.2.1 e1
      · obtain ⟨z1, z2, z3, z4⟩ := hz.2.2 e1
        refine ⟨by rw [fstL_congr hc]; exact z1, by rw [endL_congr hc]; exact z2, fun e3 => ?_, fun e2 ev' => ?_⟩
        · rw [show fi (sameVal g (ev h i).2.2.2) i = fi (sameVal h (ev h i).2.2.2) i from fi_congr fun j hj => by unfold sameVal; rw [hc j hj]]
          exact z3 e3
        · intro hwn
          cases hwr : writerL h (ev h i).2.2.1 (ev h i).2.2.2 with
          | none => exact z4 e2 ev' hwr
          | some j =>
            obtain ⟨w1, w2, _⟩ := (writerL_some _ _ _ _).1 hwr
            exact (writerL_none _ _ _).1 hwn j (by omega) (by rw [hL j w1]; exact w2)
    · rcases Nat.lt_or_ge i (h.length + 1) with hi2 | hi2
      · obtain rfl : i = h.length := by omega
        rw [formStep_zero, h0]
        refine ⟨⟨⟨by show (1 : Int) ≤ 1; decide, by show (1 : Int) ≤ 5; decide, ht.1, ht.2⟩, ?_⟩, fun _ => ?_, fun e => absurd rfl e⟩
        · rw [if_neg (show ¬ keyedE 1 by unfold keyedE; decide)]; exact ⟨rfl, rfl⟩
        · rw [fstL_none]; intro j hj; rw [hL j hj]; exact hnone j hj
      · obtain rfl : i = h.length + 1 := by omega
        rw [formStep_zero, h1]
        have hk' : ¬ keyedE k := by unfold keyedE; omega
        refine ⟨⟨⟨by show 1 ≤ k; omega, by show k ≤ 5; omega, ht.1, ht.2⟩, ?_⟩, fun e => ?_, fun e => ⟨?_, ?_, fun e3 => ?_, fun e2 => ?_⟩⟩
        · rw [if_neg hk']; exact ⟨rfl, rfl⟩
        · exfalso; have : k = 1 := e; omega
        · rw [show fstL g t (h.length + 1) = some h.length by rw [fstL_some]; exact ⟨by omega, by rw [h0], fun j hj => by rw [hL j hj]; exact hnone j hj⟩]
          simp
        · rw [endL_none]
          intro j hj hb
          rcases Nat.lt_or_ge j h.length with hjn | hjn
          · rw [hL j hjn] at hb; exact hnone j hjn hb.1
          · rw [show j = h.length by omega, h0] at hb
            rcases hb.2 with hb | hb <;> cases hb
        · exfalso; have : k = 3 := e3; omega
        · exfalso; have : k = 2 := e2; omega
  · rcases Nat.lt_or_ge i h.length with hin | hin
    · rw [hL i hin]
      intro hnn
      cases he : endL h (ev h i).2.1 h.length with
      | none => exact hw.2.2 i hin he
      | some e =>
        obtain ⟨e1, e2, _⟩ := (endL_some _ _ _ _).1 he
        exact (endL_none _ _ _).1 hnn e (by omega) (by rw [hL e e1]; exact e2)
    · have ht' : (ev g i).2.1 = t := by
        rcases Nat.lt_or_ge i (h.length + 1) with hi2 | hi2
        · rw [show i = h.length by omega, h0]
        · rw [show i = h.length + 1 by omega, h1]
      rw [ht', he1]; simp
  · unfold findL
    rw [hf1, he1]
    simp only [h1]
/-- Of a history without reads: what is wrong with a beginning. -/
theorem formed_cut (k : List Ev) (n : Nat) (hr : ∀ i, i < k.length → (ev k i).1 ≠ 2) (hl : k.length ≤ 256) (hn : n ≤ k.length) :
    ((formedL k).1 < n ∧ (formedL k).2 ≠ 0 → formedL (k.take n) = formedL k) ∧ (¬ ((formedL k).1 < n ∧ (formedL k).2 ≠ 0) → (formedL (k.take n)).1 = n ∧ ((formedL (k.take n)).2 = 0 ∨ (formedL (k.take n)).2 = 9)) := by
  have hT : (k.take n).length = n := by rw [List.length_take]; omega
  have hE : ∀ j, j < n → ev (k.take n) j = ev k j := fun j hj => ev_take k n j hj hn
  have hS : ∀ i, i < n → formStep (k.take n) i = formStep k i := fun i hi => formStep_congr (fun j hj => hE j (by omega)) (by rw [hE i hi]; exact hr i (by omega))
  have hW : fi (wrongAt (k.take n)) n = fi (wrongAt k) n := fi_congr fun i hi => by unfold wrongAt; rw [hS i hi]
  have e1 : formedL (k.take n) = match fi (wrongAt k) n with | some i => (i, formStep (k.take n) i) | none => if fi (openAt (k.take n)) n = none then (n, 0) else (n, 9) := by
    unfold formedL
    rw [hT, if_neg (by omega), hW]
    (try rfl)
  have e2 : formedL k = match fi (wrongAt k) k.length with | some i => (i, formStep k i) | none => if fi (openAt k) k.length = none then (k.length, 0) else (k.length, 9) := by
    unfold formedL
    rw [if_neg (by omega)]
    (try rfl)
  cases hc : fi (wrongAt k) n with
  | some i =>
    have hi := (fi_some _ _ _).1 hc
    have hc2 : fi (wrongAt k) k.length = some i := (fi_some _ _ _).2 ⟨by omega, hi.2⟩
    rw [hc] at e1
    rw [hc2] at e2
    simp only at e1 e2
    rw [hS i hi.1] at e1
    rw [e1, e2]
    refine ⟨fun _ => rfl, fun hh => absurd ⟨hi.1, of_decide_eq_true hi.2.1⟩ hh⟩
  | none =>
    have hno := (fi_none _ _).1 hc
    rw [hc] at e1
    simp only at e1
    refine ⟨fun hh => ?_, fun _ => ?_⟩
    · exfalso
      cases hc2 : fi (wrongAt k) k.length with
      | some i =>
        rw [hc2] at e2
        simp only at e2
        rw [e2] at hh
        have hi := (fi_some _ _ _).1 hc2
        have := hno i hh.1
        rw [hi.2.1] at this
        cases this
      | none =>
        rw [hc2] at e2
        simp only at e2
        by_cases ho : fi (openAt k) k.length = none
        · rw [if_pos ho] at e2; rw [e2] at hh; exact hh.2 rfl
        · rw [if_neg ho] at e2; rw [e2] at hh; have : k.length < n := hh.1; omega
    · rw [e1]
      by_cases ho : fi (openAt (k.take n)) n = none
      · rw [if_pos ho]; exact ⟨rfl, .inl rfl⟩
      · rw [if_neg ho]; exact ⟨rfl, .inr rfl⟩
end Go.Proofs.Ytljgflgfcbmgiaa
namespace Go.Proofs.Ytljgflgfcbmgiaa
set_option maxRecDepth 100000
set_option linter.unusedVariables false
/-- Where a transaction was committed. -/
def commL (h : List Ev) (t : Int) : Option Nat :=
  match endL h t h.length with
  | none => none
  | some e => if (ev h e).1 = 4 then some e else none
theorem commL_some (h : List Ev) (t : Int) (e : Nat) : commL h t = some e ↔ endL h t h.length = some e ∧ (ev h e).1 = 4 := by
  unfold commL
  cases he : endL h t h.length with
  | none => simp
  | some e' =>
    simp only
    by_cases h4 : (ev h e').1 = 4
    · rw [if_pos h4]
      constructor
      · intro hh; cases hh; exact ⟨rfl, h4⟩
      · intro hh; cases hh.1; rfl
    · rw [if_neg h4]
      constructor
      · intro hh; cases hh
      · intro hh; cases hh.1; exact absurd hh.2 h4
theorem comm_find (h : List Ev) (t : Int) (e : Nat) (hc : commL h t = some e) : ∃ f, findL h t = some (t, f, e, true) := by
  obtain ⟨h1, h2⟩ := (commL_some h t e).1 hc
  obtain ⟨e1, e2, e3⟩ := (endL_some _ _ _ _).1 h1
  cases hf : fstL h t h.length with
  | none => exact absurd e2.1 ((fstL_none _ _ _).1 hf e e1)
  | some f => exact ⟨f, by unfold findL; rw [hf, h1]; simp only [h2]; rfl⟩
theorem find_comm (h : List Ev) (t : Int) (a f e : Nat) (t' : Int) (hf : findL h t = some (t', f, e, true)) : t' = t ∧ commL h t = some e := by
  unfold findL at hf
  cases h1 : fstL h t h.length with
  | none => rw [h1] at hf; cases hf
  | some f' =>
    rw [h1] at hf
    simp only at hf
    cases h2 : endL h t h.length with
    | none => rw [h2] at hf; simp at hf
    | some e' =>
      rw [h2] at hf
      simp only [Option.some.injEq, Prod.mk.injEq] at hf
      obtain ⟨rfl, rfl, rfl, h4⟩ := hf
      exact ⟨rfl, (commL_some _ _ _).2 ⟨h2, of_decide_eq_true h4⟩⟩
/-- A read that counts. -/
def countsL (h : List Ev) (i : Nat) : Prop := i < h.length ∧ (ev h i).1 = 2 ∧ ∃ e, commL h (ev h i).2.1 = some e ∧ i < e
def countsB (h : List Ev) (i : Nat) : Bool := decide (i < h.length) && decide ((ev h i).1 = 2) && (match commL h (ev h i).2.1 with | some e => decide (i < e) | none => false)
theorem counts_iff (h : List Ev) (i : Nat) : countsB h i = true ↔ countsL h i := by
  unfold countsB countsL
  cases hc : commL h (ev h i).2.1 with
  | none => simp
  | some e => simp [and_assoc]
/-- What is wrong with a read: kind, its place, the place of the write. -/
def atL (h : List Ev) (i : Nat) : Int × Int × Int :=
  if countsB h i = false then (0, 0, 0) else
  match lastN h (ev h i).2.1 (ev h i).2.2.1 i with
  | some k => if (ev h k).2.2.2 = (ev h i).2.2.2 then (0, 0, 0) else (3, (i : Int), (k : Int))
  | none =>
    if (ev h i).2.2.2 = [] then (0, 0, 0) else
    match writerL h (ev h i).2.2.1 (ev h i).2.2.2 with
    | none => (0, 0, 0)
    | some w =>
      if (ev h w).2.1 = (ev h i).2.1 then (4, (i : Int), (w : Int)) else
      match commL h (ev h w).2.1 with
      | none => (1, (i : Int), (w : Int))
      | some e => if lastN h (ev h w).2.1 (ev h i).2.2.1 (min h.length e) = some w then (0, 0, 0) else (2, (i : Int), oI (lastN h (ev h w).2.1 (ev h i).2.2.1 (min h.length e)))
def outerB (h : List Ev) (i : Nat) : Bool := countsB h i && decide (lastN h (ev h i).2.1 (ev h i).2.2.1 i = none)
def badsL (h : List Ev) : List (Int × Int × Int) := (List.range h.length).filterMap fun i => if (atL h i).1 = 0 then none else some (atL h i)
def clean (h : List Ev) : Prop := ∀ i, i < h.length → (atL h i).1 = 0
theorem bads_nil (h : List Ev) : badsL h = [] ↔ clean h := by
  unfold badsL clean
  rw [List.filterMap_eq_nil_iff]
  constructor
  · intro hh i hi
    have := hh i (List.mem_range.2 hi)
    by_cases h0 : (atL h i).1 = 0
    · exact h0
    · rw [if_neg h0] at this; cases this
  · intro hh i hi
    rw [if_pos (hh i (List.mem_range.1 hi))]
theorem at_zero (h : List Ev) (i : Nat) (h0 : (atL h i).1 = 0) : atL h i = (0, 0, 0) := by
  unfold atL at h0 ⊢
  repeat' split at h0
  all_goals first | (exfalso; revert h0; decide) | skip
  all_goals simp_all
/-- What a clean read is of. -/
theorem clean_own {h : List Ev} (hc : clean h) {i k : Nat} (hi : countsL h i) (hl : lastN h (ev h i).2.1 (ev h i).2.2.1 i = some k) : (ev h k).2.2.2 = (ev h i).2.2.2 := by
  have h0 := hc i hi.1
  unfold atL at h0
  rw [if_neg (by rw [(counts_iff h i).2 hi]; simp), hl] at h0
  simp only at h0
  by_cases he : (ev h k).2.2.2 = (ev h i).2.2.2
  · exact he
  · rw [if_neg he] at h0; revert h0; simp
theorem clean_other {h : List Ev} (hc : clean h) {i w : Nat} (hi : countsL h i) (hl : lastN h (ev h i).2.1 (ev h i).2.2.1 i = none) (hv : (ev h i).2.2.2 ≠ []) (hw : writerL h (ev h i).2.2.1 (ev h i).2.2.2 = some w) : (ev h w).2.1 ≠ (ev h i).2.1 ∧ ∃ e, commL h (ev h w).2.1 = some e ∧ lastN h (ev h w).2.1 (ev h i).2.2.1 e = some w := by
  have h0 := hc i hi.1
  unfold atL at h0
  rw [if_neg (by rw [(counts_iff h i).2 hi]; simp), hl] at h0
  simp only at h0
  rw [if_neg hv, hw] at h0
  simp only at h0
  by_cases ht : (ev h w).2.1 = (ev h i).2.1
  · rw [if_pos ht] at h0; revert h0; simp
  · rw [if_neg ht] at h0
    refine ⟨ht, ?_⟩
    cases hm : commL h (ev h w).2.1 with
    | none => rw [hm] at h0; revert h0; simp
    | some e =>
      rw [hm] at h0
      simp only at h0
      have he := ((endL_some _ _ _ _).1 ((commL_some _ _ _).1 hm).1).1
      rw [Nat.min_eq_right (by omega)] at h0
      by_cases hl' : lastN h (ev h w).2.1 (ev h i).2.2.1 e = some w
      · exact ⟨e, rfl, hl'⟩
      · rw [if_neg hl'] at h0; revert h0; simp
end Go.Proofs.Ytljgflgfcbmgiaa
namespace Go.Proofs.Ytljgflgfcbmgiaa
set_option maxRecDepth 100000
set_option linter.unusedVariables false
theorem at_no (h : List Ev) (i : Nat) (hc : ¬ countsL h i) : atL h i = (0, 0, 0) := by
  unfold atL
  rw [if_pos]
  cases hb : countsB h i with
  | false => rfl
  | true => exact absurd ((counts_iff h i).1 hb) hc
theorem at_own (h : List Ev) (i k : Nat) (hc : countsL h i) (hl : lastN h (ev h i).2.1 (ev h i).2.2.1 i = some k) : atL h i = if (ev h k).2.2.2 = (ev h i).2.2.2 then (0, 0, 0) else (3, (i : Int), (k : Int)) := by
  unfold atL
  rw [if_neg (by rw [(counts_iff h i).2 hc]; simp), hl]
theorem at_empty (h : List Ev) (i : Nat) (hl : lastN h (ev h i).2.1 (ev h i).2.2.1 i = none) (hv : (ev h i).2.2.2 = []) : atL h i = (0, 0, 0) := by
  unfold atL
  by_cases hc : countsB h i = false
  · rw [if_pos hc]
  · rw [if_neg hc, hl]; simp only; rw [if_pos hv]
/-- What is told of a read, in a well formed history. -/
def Shows (h : List Ev) (i : Nat) (b : Int × Int × Int) (j : Nat) : Prop :=
  b.2.1 = (i : Int) ∧ b.2.2 = (j : Int) ∧ countsL h i ∧ j < h.length ∧ (ev h j).1 = 3 ∧ (ev h j).2.2.1 = (ev h i).2.2.1 ∧
  ((b.1 = 1 ∧ commL h (ev h j).2.1 = none ∧ (ev h j).2.2.2 = (ev h i).2.2.2 ∧ (ev h j).2.1 ≠ (ev h i).2.1) ∨
   (b.1 = 2 ∧ (∃ e, commL h (ev h j).2.1 = some e) ∧ (ev h j).2.2.2 ≠ (ev h i).2.2.2 ∧ (ev h j).2.1 ≠ (ev h i).2.1) ∨
   (b.1 = 3 ∧ (ev h j).2.1 = (ev h i).2.1 ∧ j < i ∧ (ev h j).2.2.2 ≠ (ev h i).2.2.2) ∨
   (b.1 = 4 ∧ (ev h j).2.1 = (ev h i).2.1 ∧ i < j ∧ (ev h j).2.2.2 = (ev h i).2.2.2))
theorem at_shows {h : List Ev} (hw : WF h) (i : Nat) : atL h i = (0, 0, 0) ∨ ∃ j, Shows h i (atL h i) j := by
  by_cases hc : countsL h i
  · cases hl : lastN h (ev h i).2.1 (ev h i).2.2.1 i with
    | some k =>
      rw [at_own h i k hc hl]
      obtain ⟨l1, l2, l3⟩ := (lastN_some _ _ _ _ _).1 hl
      have hilt := hc.1
      by_cases hv : (ev h k).2.2.2 = (ev h i).2.2.2
      · rw [if_pos hv]; exact .inl rfl
      · rw [if_neg hv]
        exact .inr ⟨k, rfl, rfl, hc, by omega, l2.1, l2.2.2, .inr (.inr (.inl ⟨rfl, l2.2.1, l1, hv⟩))⟩
    | none =>
      by_cases hv : (ev h i).2.2.2 = []
      · exact .inl (at_empty h i hl hv)
      · have e0 : atL h i = match writerL h (ev h i).2.2.1 (ev h i).2.2.2 with
            | none => (0, 0, 0)
            | some w => if (ev h w).2.1 = (ev h i).2.1 then (4, (i : Int), (w : Int)) else
              match commL h (ev h w).2.1 with
              | none => (1, (i : Int), (w : Int))
              | some e => if lastN h (ev h w).2.1 (ev h i).2.2.1 (min h.length e) = some w then (0, 0, 0) else (2, (i : Int), oI (lastN h (ev h w).2.1 (ev h i).2.2.1 (min h.length e))) := by
          unfold atL
          rw [if_neg (by rw [(counts_iff h i).2 hc]; simp), hl]
          simp only
          rw [if_neg hv]
          (try rfl)
        cases hwr : writerL h (ev h i).2.2.1 (ev h i).2.2.2 with
        | none => rw [hwr] at e0; exact .inl e0
        | some w =>
          rw [hwr] at e0
          simp only at e0
          obtain ⟨w1, w2, w3⟩ := (writerL_some _ _ _ _).1 hwr
          by_cases ht : (ev h w).2.1 = (ev h i).2.1
          · rw [if_pos ht] at e0
            rw [e0]
            have hne : w ≠ i := fun he => by rw [he] at w2; have := hc.2.1; rw [w2.1] at this; cases this
            have hlt : ¬ w < i := fun hh => (lastN_none _ _ _ _).1 hl w hh ⟨w2.1, ht, w2.2.1⟩
            exact .inr ⟨w, rfl, rfl, hc, w1, w2.1, w2.2.1, .inr (.inr (.inr ⟨rfl, ht, by omega, w2.2.2⟩))⟩
          · rw [if_neg ht] at e0
            cases hm : commL h (ev h w).2.1 with
            | none =>
              rw [hm] at e0
              rw [e0]
              exact .inr ⟨w, rfl, rfl, hc, w1, w2.1, w2.2.1, .inl ⟨rfl, hm, w2.2.2, ht⟩⟩
            | some e =>
              rw [hm] at e0
              simp only at e0
              obtain ⟨c1, c2⟩ := (commL_some _ _ _).1 hm
              obtain ⟨q1, q2, q3⟩ := (endL_some _ _ _ _).1 c1
              rw [Nat.min_eq_right (by omega)] at e0
              by_cases hlw : lastN h (ev h w).2.1 (ev h i).2.2.1 e = some w
              · rw [if_pos hlw] at e0; exact .inl e0
              · rw [if_neg hlw] at e0
                obtain ⟨f', e', g0, g1, g2, g3, g4, g5, g6⟩ := wf_life hw w1
                rw [c1] at g1
                cases g1
                have hwe : w ≠ e := fun he => by rw [he, c2] at w2; cases w2.1
                cases hm2 : lastN h (ev h w).2.1 (ev h i).2.2.1 e with
                | none => exact absurd ⟨w2.1, rfl, w2.2.1⟩ ((lastN_none _ _ _ _).1 hm2 w (by omega))
                | some m =>
                  rw [hm2] at e0 hlw
                  obtain ⟨m1, m2, m3⟩ := (lastN_some _ _ _ _ _).1 hm2
                  have hmw : w < m := by
                    rcases Nat.lt_trichotomy w m with hh | hh | hh
                    · exact hh
                    · exact absurd (by rw [hh]) hlw
                    · exact absurd ⟨w2.1, rfl, w2.2.1⟩ (m3 w hh (by omega))
                  rw [e0]
                  refine .inr ⟨m, rfl, rfl, hc, by omega, m2.1, m2.2.2, .inr (.inl ⟨rfl, ⟨e, by rw [m2.2.1]; exact hm⟩, ?_, by rw [m2.2.1]; exact ht⟩)⟩
                  have := wf_vals hw (by omega) m2.1 hmw w2.1
                  rw [w2.2.2] at this
                  exact fun he => this he.symm
  · exact .inl (at_no h i hc)
end Go.Proofs.Ytljgflgfcbmgiaa
namespace Go.Proofs.Ytljgflgfcbmgiaa
set_option maxRecDepth 100000
set_option linter.unusedVariables false
theorem fin_prefix {n : Nat} {pre : List (Fin n)} {x : Fin n} (h : pre ++ [x] <+: List.finRange n) : pre <+: List.finRange n ∧ x.val = pre.length ∧ pre.length < n := by
  have hl := h.length_le
  rw [List.length_append, List.length_finRange] at hl
  have h1 : pre <+: List.finRange n := (List.prefix_append _ _).trans h
  refine ⟨h1, ?_, by simp at hl; omega⟩
  have h2 := List.IsPrefix.getElem h (i := pre.length) (by simp)
  rw [List.getElem_append_right (Nat.le_refl _)] at h2
  simp at h2
  rw [h2]
theorem fin_take {n k : Nat} (hk : k < n) : (List.finRange n).take (k + 1) = (List.finRange n).take k ++ [⟨k, hk⟩] := by
  rw [List.take_succ_eq_append_getElem (by rw [List.length_finRange]; exact hk), List.getElem_finRange]
  rfl
end Go.Proofs.Ytljgflgfcbmgiaa
namespace Go.Proofs.Ytljgflgfcbmgiaa
set_option maxRecDepth 100000
set_option linter.unusedVariables false
/-- Less, by bytes. -/
def lessB : List UInt8 → List UInt8 → Bool
  | [], [] => false
  | [], _ :: _ => true
  | _ :: _, [] => false
  | a :: l, b :: m => if a < b then true else if a = b then lessB l m else false
def insK (k : List UInt8) : List (List UInt8) → List (List UInt8)
  | [] => [k]
  | x :: l => if lessB x k = true then x :: insK k l else if x = k then x :: l else k :: x :: l
def keysF : List (List UInt8) → List Ev → List (List UInt8)
  | acc, [] => acc
  | acc, x :: l => keysF (if keyedE x.1 then insK x.2.2.1 acc else acc) l
def keysL (h : List Ev) : List (List UInt8) := keysF [] h
theorem insK_mem (k : List UInt8) : ∀ (l : List (List UInt8)) (y : List UInt8), y ∈ insK k l ↔ y = k ∨ y ∈ l
  | [], y => by rw [insK]; simp
  | x :: l, y => by
    rw [insK]
    by_cases h1 : lessB x k = true
    · rw [if_pos h1, List.mem_cons, insK_mem k l y, List.mem_cons]
      constructor
      · rintro (h | h | h)
        · exact .inr (.inl h)
        · exact .inl h
        · exact .inr (.inr h)
      · rintro (h | h | h)
        · exact .inr (.inl h)
        · exact .inl h
        · exact .inr (.inr h)
    · rw [if_neg h1]
      by_cases h2 : x = k
      · rw [if_pos h2, List.mem_cons]
        constructor
        · intro h; exact .inr h
        · rintro (h | h)
          · exact .inl (by rw [h, h2])
          · exact h
      · rw [if_neg h2, List.mem_cons]
theorem keysF_mem (y : List UInt8) : ∀ (l : List Ev) (acc : List (List UInt8)), y ∈ keysF acc l ↔ y ∈ acc ∨ ∃ x ∈ l, keyedE x.1 ∧ x.2.2.1 = y
  | [], acc => by rw [keysF]; simp
  | x :: l, acc => by
    rw [keysF, keysF_mem y l]
    by_cases hk : keyedE x.1
    · rw [if_pos hk, insK_mem]
      constructor
      · rintro ((h | h) | ⟨z, hz, h1, h2⟩)
        · exact .inr ⟨x, List.mem_cons_self .., hk, h.symm⟩
        · exact .inl h
        · exact .inr ⟨z, List.mem_cons_of_mem _ hz, h1, h2⟩
      · rintro (h | ⟨z, hz, h1, h2⟩)
        · exact .inl (.inr h)
        · rcases List.mem_cons.1 hz with rfl | hz
          · exact .inl (.inl h2.symm)
          · exact .inr ⟨z, hz, h1, h2⟩
    · rw [if_neg hk]
      constructor
      · rintro (h | ⟨z, hz, h1, h2⟩)
        · exact .inl h
        · exact .inr ⟨z, List.mem_cons_of_mem _ hz, h1, h2⟩
      · rintro (h | ⟨z, hz, h1, h2⟩)
        · exact .inl h
        · rcases List.mem_cons.1 hz with rfl | hz
          · exact absurd h1 hk
          · exact .inr ⟨z, hz, h1, h2⟩
theorem keys_mem (h : List Ev) (y : List UInt8) : y ∈ keysL h ↔ ∃ i, i < h.length ∧ keyedE (ev h i).1 ∧ (ev h i).2.2.1 = y := by
  unfold keysL
  rw [keysF_mem]
  constructor
  · rintro (h' | ⟨x, hx, h1, h2⟩)
    · cases h'
    · obtain ⟨i, hi, rfl⟩ := List.getElem_of_mem hx
      exact ⟨i, hi, by rw [ev_get _ _ hi]; exact h1, by rw [ev_get _ _ hi]; exact h2⟩
  · rintro ⟨i, hi, h1, h2⟩
    rw [ev_get _ _ hi] at h1 h2
    exact .inr ⟨h[i], List.getElem_mem hi, h1, h2⟩
/-- An edge: kind, from, to, the two places. -/
abbrev Ed := Int × Int × Int × Int × Int
def tx (h : List Ev) (i : Nat) : Int := (ev h i).2.1
def vAt (v : List Nat) (n : Nat) : Nat := v.getD n 0
def wEdge (h : List Ev) (v : List Nat) (n : Nat) : Option Ed := if tx h (vAt v n) = tx h (vAt v (n + 1)) then none else some (1, tx h (vAt v n), tx h (vAt v (n + 1)), (vAt v n : Int), (vAt v (n + 1) : Int))
def wEdges (h : List Ev) (v : List Nat) : List Ed := (List.range (v.length - 1)).filterMap (wEdge h v)
/-- The number of the first version whose value is read. -/
def verAt (h : List Ev) (v : List Nat) (i : Nat) : Option Nat := fi (fun n => decide ((ev h (vAt v n)).2.2.2 = (ev h i).2.2.2)) v.length
def rEdge (h : List Ev) (v : List Nat) (i n : Nat) : List Ed := if tx h (vAt v n) = tx h i then [] else [(2, tx h (vAt v n), tx h i, (vAt v n : Int), (i : Int))]
def oEdge (h : List Ev) (v : List Nat) (i n : Nat) : List Ed := if n < v.length ∧ tx h (vAt v n) ≠ tx h i then [(3, tx h i, tx h (vAt v n), (i : Int), (vAt v n : Int))] else []
def rdEdges (h : List Ev) (v : List Nat) (i : Nat) : List Ed :=
  match verAt h v i with
  | none => if (ev h i).2.2.2 = [] then oEdge h v i 0 else []
  | some n => rEdge h v i n ++ oEdge h v i (n + 1)
def readOf (h : List Ev) (key : List UInt8) (i : Nat) : Bool := decide ((ev h i).2.2.1 = key) && outerB h i
def rEdges (h : List Ev) (key : List UInt8) (v : List Nat) : List Ed := (List.range h.length).flatMap fun i => if readOf h key i = true then rdEdges h v i else []
def keyEdges (h : List Ev) (key : List UInt8) : List Ed := wEdges h (versL h key) ++ rEdges h key (versL h key)
def edgesL (h : List Ev) : List Ed := (keysL h).flatMap (keyEdges h)
/-- Whether an edge holds. -/
def holdsL (h : List Ev) (e : Ed) : Prop :=
  ∃ a b i j : Nat, commL h e.2.1 = some a ∧ commL h e.2.2.1 = some b ∧ e.2.1 ≠ e.2.2.1 ∧ e.2.2.2.1 = (i : Int) ∧ e.2.2.2.2 = (j : Int) ∧ i < h.length ∧ j < h.length ∧ (ev h i).2.2.1 = (ev h j).2.2.1 ∧ tx h i = e.2.1 ∧ tx h j = e.2.2.1 ∧
  ((e.1 = 1 ∧ (ev h i).1 = 3 ∧ (ev h j).1 = 3 ∧ a < b) ∨ (e.1 = 2 ∧ (ev h i).1 = 3 ∧ (ev h j).1 = 2 ∧ (ev h i).2.2.2 = (ev h j).2.2.2) ∨
   (e.1 = 3 ∧ (ev h i).1 = 2 ∧ (ev h j).1 = 3 ∧ ((ev h i).2.2.2 = [] ∨ ∃ w c, writerL h (ev h i).2.2.1 (ev h i).2.2.2 = some w ∧ tx h w ≠ e.2.2.1 ∧ commL h (tx h w) = some c ∧ c < b)))
/-- A way of edges. -/
def wayI (l : List Ed) (a : Int) : Nat → Int → Prop
  | 0, b => b = a
  | n + 1, b => ∃ e, e ∈ l ∧ wayI l a n e.2.1 ∧ b = e.2.2.1
def Way (l : List Ed) (a b : Int) : Prop := ∃ n, wayI l a n b
theorem Way.here {l : List Ed} {a : Int} : Way l a a := ⟨0, rfl⟩
theorem Way.go {l : List Ed} {a : Int} (e : Ed) (he : e ∈ l) (h : Way l a e.2.1) : Way l a e.2.2.1 := by
  obtain ⟨n, hn⟩ := h
  exact ⟨n + 1, e, he, hn, rfl⟩
theorem Way.elim {l : List Ed} {a : Int} {motive : (b : Int) → Way l a b → Prop} (here : motive a Way.here) (go : ∀ (e : Ed) (he : e ∈ l) (h : Way l a e.2.1), motive e.2.1 h → motive e.2.2.1 (Way.go e he h)) {b : Int} (h : Way l a b) : motive b h := by
  obtain ⟨n, hn⟩ := h
  induction n generalizing b with
  | zero => have e : b = a := hn
            subst e; exact here
  | succ n ih =>
    obtain ⟨e, he, h1, rfl⟩ := hn
    exact go e he ⟨n, h1⟩ (ih h1)
theorem Way.trans {l : List Ed} {a b c : Int} (h : Way l a b) (k : Way l b c) : Way l a c := by
  induction k using Way.elim with
  | here => exact h
  | go e he _ ih => exact .go e he ih
end Go.Proofs.Ytljgflgfcbmgiaa
namespace Go.Proofs.Ytljgflgfcbmgiaa
set_option maxRecDepth 100000
set_option linter.unusedVariables false
theorem keysF_snoc (x : Ev) : ∀ (l : List Ev) (acc : List (List UInt8)), keysF acc (l ++ [x]) = if keyedE x.1 then insK x.2.2.1 (keysF acc l) else keysF acc l
  | [], acc => by show keysF _ [] = _; rw [keysF]; rfl
  | y :: l, acc => by
    show keysF acc (y :: (l ++ [x])) = _
    rw [keysF, keysF_snoc x l]
    rfl
theorem insK_split (k : List UInt8) : ∀ (K : List (List UInt8)) (q : Nat) (hq : q ≤ K.length) (hl : ∀ j (h : j < q), lessB (K[j]'(by omega)) k = true) (hn : ∀ h : q < K.length, lessB (K[q]'h) k = false),
    insK k K = if ∃ h : q < K.length, K[q]'h = k then K else K.take q ++ k :: K.drop q
  | [], q, hq, hl, hn => by
    obtain rfl : q = 0 := by simpa using hq
    rw [insK, if_neg (by rintro ⟨h, _⟩; simp at h)]
    rfl
  | x :: K, 0, hq, hl, hn => by
    have := hn (by simp)
    simp only [List.getElem_cons_zero] at this
    rw [insK, if_neg (by rw [this]; simp)]
    by_cases hx : x = k
    · rw [if_pos hx, if_pos ⟨by simp, hx⟩]
    · rw [if_neg hx, if_neg (by rintro ⟨_, h⟩; exact hx h)]
      rfl
  | x :: K, q + 1, hq, hl, hn => by
    have h0 := hl 0 (by omega)
    simp only [List.getElem_cons_zero] at h0
    rw [insK, if_pos h0, insK_split k K q (by simpa using hq) (fun j h => by have := hl (j + 1) (by omega); simpa using this) (fun h => by have := hn (by simpa using h); simpa using this)]
    by_cases hx : ∃ h : q < K.length, K[q]'h = k
    · rw [if_pos hx, if_pos (by obtain ⟨h, e⟩ := hx; exact ⟨by simpa using h, by simpa using e⟩)]
    · rw [if_neg hx, if_neg (by rintro ⟨h, e⟩; exact hx ⟨by simpa using h, by simpa using e⟩)]
      rfl
theorem insK_len (k : List UInt8) : ∀ K : List (List UInt8), (insK k K).length ≤ K.length + 1
  | [] => by rw [insK]; simp
  | x :: K => by
    rw [insK]
    by_cases h1 : lessB x k = true
    · rw [if_pos h1]; have := insK_len k K; simp only [List.length_cons]; omega
    · rw [if_neg h1]
      by_cases h2 : x = k
      · rw [if_pos h2]; simp
      · rw [if_neg h2]; simp
theorem lessB_same (x y : UInt8) (l m : List UInt8) (h : x = y) : lessB (x :: l) (y :: m) = lessB l m := by
  subst h
  rw [lessB, if_neg (by simp), if_pos rfl]
theorem lessB_diff (x y : UInt8) (l m : List UInt8) (h : x ≠ y) : lessB (x :: l) (y :: m) = decide (x.toNat < y.toNat) := by
  rw [lessB, if_neg h]
  by_cases hx : x < y
  · rw [if_pos hx, decide_eq_true (UInt8.lt_iff_toNat_lt.1 hx)]
  · rw [if_neg hx, decide_eq_false (fun hh => hx (UInt8.lt_iff_toNat_lt.2 hh))]
theorem lessB_nil (m : List UInt8) : lessB [] m = decide (0 < m.length) := by
  cases m with
  | nil => rfl
  | cons _ _ => rw [lessB]; simp
theorem lessB_cons_nil (x : UInt8) (l : List UInt8) : lessB (x :: l) [] = false := by rw [lessB]
end Go.Proofs.Ytljgflgfcbmgiaa
