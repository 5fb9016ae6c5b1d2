/-
  Plain facts on numbers, texts and rows as bytes: no program in sight.
  Plain facts on rows of texts as bytes, and on what is taken from bytes: no program in sight.
  Events and their bytes, in lists: of no program.
  Histories in lists: places, ends, writes, versions, which are well formed: of no program.
  What follows of a history that is well formed, in lists: of no program.
  Histories grown and cut, in lists: of no program.
  What a committed transaction saw and should not have seen, in lists: of no program.
  Beginnings of the row of all places: of no program.
  Edges of a history, in lists: of no program.
  What edges say, and what follows from them, in lists: of no program.
  Keys of a history, as a loop makes them: in lists.
  Orders and rings of steps, in lists: of no program.
  Rings of steps: there is one just if there is no order, in lists: of no program.
  Steps of edges, rings of what holds, what is good, in lists: of no program.
-/
import Derived.RangeFuncNested
namespace Go.Proofs.Ytpfpkpaodlmlaaa.Lm

/-- How many bytes a number below 2^64 takes. -/
def cnt (v : Nat) : Nat :=
  if v = 0 then 0 else if v < 256 then 1 else if v < 65536 then 2 else if v < 16777216 then 3 else if v < 4294967296 then 4
  else if v < 1099511627776 then 5 else if v < 281474976710656 then 6 else if v < 72057594037927936 then 7 else 8

/-- The low k bytes of v, the highest first. -/
def low : Nat → Nat → List UInt8
  | 0, _ => []
  | k + 1, v => UInt8.ofNat (v / 256 ^ k) :: low k v

def numL (v : Nat) : List UInt8 := UInt8.ofNat (cnt v) :: low (cnt v) v

def val (l : List UInt8) : Nat := l.foldl (fun a b => 256 * a + b.toNat) 0

theorem low_length (k v : Nat) : (low k v).length = k := by
  induction k with
  | zero => rfl
  | succ k ih => simp [low, ih]

theorem foldl_val (l : List UInt8) (a : Nat) : l.foldl (fun a b => 256 * a + b.toNat) a = a * 256 ^ l.length + val l := by
  unfold val
  induction l generalizing a with
  | nil => simp
  | cons b l ih =>
    simp only [List.foldl_cons, List.length_cons]
    rw [ih, ih (256 * 0 + b.toNat)]
    rw [Nat.pow_succ]
    generalize 256 ^ l.length = p
    have : (256 * a + b.toNat) * p = a * (p * 256) + b.toNat * p := by
      rw [Nat.add_mul, Nat.mul_comm 256 a, Nat.mul_assoc, Nat.mul_comm 256 p]
    rw [this]; simp; omega

theorem val_cons (b : UInt8) (l : List UInt8) : val (b :: l) = b.toNat * 256 ^ l.length + val l := by
  rw [val, List.foldl_cons, foldl_val]; simp

theorem val_snoc (l : List UInt8) (b : UInt8) : val (l ++ [b]) = 256 * val l + b.toNat := by
  simp [val, List.foldl_append]

theorem val_lt (l : List UInt8) : val l < 256 ^ l.length := by
  induction l with
  | nil => simp [val]
  | cons b l ih =>
    rw [val_cons, List.length_cons, Nat.pow_succ]
    have hb : b.toNat < 256 := b.toNat_lt
    have : b.toNat * 256 ^ l.length ≤ 255 * 256 ^ l.length := Nat.mul_le_mul_right _ (by omega)
    omega

theorem val_low (k v : Nat) : val (low k v) = v % 256 ^ k := by
  induction k with
  | zero => simp [low, val, Nat.mod_one]
  | succ k ih =>
    rw [low, val_cons, low_length, ih]
    have h : (UInt8.ofNat (v / 256 ^ k)).toNat = v / 256 ^ k % 256 := by simp
    rw [h, Nat.pow_succ, Nat.mod_mul, Nat.mul_comm]; omega

theorem low_val (l : List UInt8) : low l.length (val l) = l := by
  induction l with
  | nil => rfl
  | cons b l ih =>
    have hlt := val_lt l
    rw [List.length_cons, low, val_cons]
    have hp : 0 < 256 ^ l.length := Nat.pow_pos (by omega)
    have h1 : (b.toNat * 256 ^ l.length + val l) / 256 ^ l.length = b.toNat := by
      rw [Nat.add_comm, Nat.add_mul_div_right _ _ hp, Nat.div_eq_of_lt hlt]; omega
    rw [h1]
    have h2 : ∀ k v w, v % 256 ^ k = w % 256 ^ k → low k v = low k w := by
      intro k
      induction k with
      | zero => intros; rfl
      | succ k ihk =>
        intro v w h
        have e1 : v / 256 ^ k % 256 = w / 256 ^ k % 256 := by
          rw [← Nat.mod_mul_right_div_self, ← Nat.mod_mul_right_div_self, ← Nat.pow_succ, h]
        have e2 : v % 256 ^ k = w % 256 ^ k := by
          have := congrArg (· % 256 ^ k) h
          simp only [Nat.pow_succ, Nat.mod_mul_right_mod] at this
          exact this
        rw [low, low, ihk _ _ e2]
        congr 1
        apply UInt8.toNat_inj.1
        simpa using e1
    rw [h2 l.length (b.toNat * 256 ^ l.length + val l) (val l) (by rw [Nat.mul_add_mod_self_right]), ih]
    congr 1
    simp

theorem cnt_le (v : Nat) : cnt v ≤ 8 := by unfold cnt; (repeat' split) <;> omega

theorem cnt_eq (v k : Nat) (hk : k ≤ 8) (h1 : k = 0 ∨ 256 ^ (k - 1) ≤ v) (h2 : v < 256 ^ k) : cnt v = k := by
  have hk' : k = 0 ∨ k = 1 ∨ k = 2 ∨ k = 3 ∨ k = 4 ∨ k = 5 ∨ k = 6 ∨ k = 7 ∨ k = 8 := by omega
  unfold cnt
  rcases hk' with rfl | rfl | rfl | rfl | rfl | rfl | rfl | rfl | rfl <;> simp at h1 h2 <;> (repeat' split) <;> omega

theorem cnt_bounds (v : Nat) (hv : v < 2 ^ 64) : v < 256 ^ cnt v ∧ (cnt v = 0 ∨ 256 ^ (cnt v - 1) ≤ v) := by
  have key : ∀ k, k ≤ 8 → (k = 0 ∨ 256 ^ (k - 1) ≤ v) → v < 256 ^ k → v < 256 ^ cnt v ∧ (cnt v = 0 ∨ 256 ^ (cnt v - 1) ≤ v) := by
    intro k hk h1 h2
    rw [cnt_eq v k hk h1 h2]; exact ⟨h2, h1⟩
  by_cases h0 : v < 1
  · exact key 0 (by omega) (.inl rfl) (by have e : (256 : Nat) ^ 0 = 1 := (by decide); omega)
  by_cases h1 : v < 256
  · exact key 1 (by omega) (.inr (by have e : (256 : Nat) ^ (1 - 1) = 1 := (by decide); omega)) (by have e : (256 : Nat) ^ 1 = 256 := (by decide); omega)
  by_cases h2 : v < 65536
  · exact key 2 (by omega) (.inr (by have e : (256 : Nat) ^ (2 - 1) = 256 := (by decide); omega)) (by have e : (256 : Nat) ^ 2 = 65536 := (by decide); omega)
  by_cases h3 : v < 16777216
  · exact key 3 (by omega) (.inr (by have e : (256 : Nat) ^ (3 - 1) = 65536 := (by decide); omega)) (by have e : (256 : Nat) ^ 3 = 16777216 := (by decide); omega)
  by_cases h4 : v < 4294967296
  · exact key 4 (by omega) (.inr (by have e : (256 : Nat) ^ (4 - 1) = 16777216 := (by decide); omega)) (by have e : (256 : Nat) ^ 4 = 4294967296 := (by decide); omega)
  by_cases h5 : v < 1099511627776
  · exact key 5 (by omega) (.inr (by have e : (256 : Nat) ^ (5 - 1) = 4294967296 := (by decide); omega)) (by have e : (256 : Nat) ^ 5 = 1099511627776 := (by decide); omega)
  by_cases h6 : v < 281474976710656
  · exact key 6 (by omega) (.inr (by have e : (256 : Nat) ^ (6 - 1) = 1099511627776 := (by decide); omega)) (by have e : (256 : Nat) ^ 6 = 281474976710656 := (by decide); omega)
  by_cases h7 : v < 72057594037927936
  · exact key 7 (by omega) (.inr (by have e : (256 : Nat) ^ (7 - 1) = 281474976710656 := (by decide); omega)) (by have e : (256 : Nat) ^ 7 = 72057594037927936 := (by decide); omega)
  exact key 8 (by omega) (.inr (by have e : (256 : Nat) ^ (8 - 1) = 72057594037927936 := (by decide); omega)) (by have e : (256 : Nat) ^ 8 = 2 ^ 64 := (by decide); omega)

theorem cnt_mono (a b : Nat) (hb : b < 2 ^ 64) (h : a ≤ b) : cnt a ≤ cnt b := by
  obtain ⟨h1, h2⟩ := cnt_bounds a (by omega)
  obtain ⟨h3, h4⟩ := cnt_bounds b hb
  rcases Nat.lt_or_ge (cnt b) (cnt a) with h' | h'
  · have : 256 ^ cnt b ≤ 256 ^ (cnt a - 1) := Nat.pow_le_pow_right (by omega) (by omega)
    omega
  · exact h'

/-- The count, as a loop meets it. -/
theorem cnt_of_loop (v k : Nat) (hv : v < 2 ^ 64) (h1 : k = 0 ∨ 0 < v / 256 ^ (k - 1)) (h2 : v / 256 ^ k = 0) : k = cnt v := by
  have hp : ∀ j, 0 < 256 ^ j := fun j => Nat.pow_pos (by omega)
  have h2' : v < 256 ^ k := by
    rcases Nat.lt_or_ge v (256 ^ k) with h | h
    · exact h
    · have := Nat.div_pos h (hp k); omega
  have h1' : k = 0 ∨ 256 ^ (k - 1) ≤ v := by
    rcases h1 with h | h
    · exact .inl h
    · right
      rcases Nat.lt_or_ge v (256 ^ (k - 1)) with h' | h'
      · rw [Nat.div_eq_of_lt h'] at h; omega
      · exact h'
  have hk : k ≤ 8 := by
    rcases h1' with h | h
    · omega
    · rcases Nat.lt_or_ge 8 k with h8 | h8
      · have : 256 ^ 8 ≤ 256 ^ (k - 1) := Nat.pow_le_pow_right (by omega) (by omega)
        have e : (256 : Nat) ^ 8 = 2 ^ 64 := by decide
        omega
      · exact h8
  exact (cnt_eq v k hk h1' h2').symm

theorem loop_le (v k : Nat) (hv : v < 2 ^ 64) (h : 0 < v / 256 ^ k) : k < 8 := by
  rcases Nat.lt_or_ge k 8 with h8 | h8
  · exact h8
  · have h1 : 256 ^ 8 ≤ 256 ^ k := Nat.pow_le_pow_right (by omega) h8
    have e : (256 : Nat) ^ 8 = 2 ^ 64 := by decide
    rw [Nat.div_eq_of_lt (by omega)] at h; omega

def takeNumL : List UInt8 → Nat × List UInt8 × Nat
  | [] => (0, [], 2)
  | n :: r => if 8 < n.toNat then (0, [], 3) else if r.length < n.toNat then (0, [], 2) else if 0 < n.toNat ∧ r.head? = some 0 then (0, [], 3)
    else (val (r.take n.toNat), r.drop n.toNat, 0)

theorem numL_length (v : Nat) : (numL v).length = cnt v + 1 := by simp [numL, low_length]

theorem ofNat_cnt (v : Nat) : (UInt8.ofNat (cnt v)).toNat = cnt v := by
  have := cnt_le v
  rw [UInt8.toNat_ofNat']; omega

theorem low_head (v : Nat) (hv : v < 2 ^ 64) (h : 0 < cnt v) : (low (cnt v) v).head? ≠ some 0 := by
  obtain ⟨h1, h2⟩ := cnt_bounds v hv
  cases hc : cnt v with
  | zero => omega
  | succ k =>
    rw [hc] at h1 h2
    simp only [low, List.head?_cons, ne_eq, Option.some.injEq]
    intro h0
    have := congrArg UInt8.toNat h0
    simp at this
    have hk : 256 ^ k ≤ v := by rcases h2 with h | h; omega; simpa using h
    have hp : 0 < 256 ^ k := Nat.pow_pos (by omega)
    have h3 := Nat.div_pos hk hp
    have h4 : v / 256 ^ k < 256 := by
      rw [Nat.div_lt_iff_lt_mul hp]; rw [Nat.pow_succ] at h1; omega
    omega

theorem take_num (v : Nat) (hv : v < 2 ^ 64) (more : List UInt8) : takeNumL (numL v ++ more) = (v, more, 0) := by
  have h8 := cnt_le v
  have hl := low_length (cnt v) v
  have hb := (cnt_bounds v hv).1
  rw [numL, List.cons_append, takeNumL, ofNat_cnt]
  rw [if_neg (by omega), if_neg (by simp [hl]), if_neg, List.take_append_of_le_length (by omega), List.drop_append_of_le_length (by omega),
    List.take_of_length_le (by omega), List.drop_of_length_le (by omega), val_low, Nat.mod_eq_of_lt hb]
  · simp
  · rintro ⟨h0, h⟩
    apply low_head v hv h0
    rw [← h]
    cases hc : low (cnt v) v with
    | nil => simp [hc] at hl; omega
    | cons a l => simp

theorem num_take (s : List UInt8) (y : Nat) (left : List UInt8) (h : takeNumL s = (y, left, 0)) : numL y ++ left = s ∧ y < 2 ^ 64 := by
  match s, h with
  | n :: r, h =>
    rw [takeNumL] at h
    by_cases h8 : 8 < n.toNat
    · rw [if_pos h8] at h; simp at h
    rw [if_neg h8] at h
    by_cases hl : r.length < n.toNat
    · rw [if_pos hl] at h; simp at h
    rw [if_neg hl] at h
    by_cases hh : 0 < n.toNat ∧ r.head? = some 0
    · rw [if_pos hh] at h; simp at h
    rw [if_neg hh] at h
    simp only [Prod.mk.injEq] at h
    obtain ⟨rfl, rfl, -⟩ := h
    have hlen : (r.take n.toNat).length = n.toNat := by simp; omega
    have hlt := val_lt (r.take n.toNat)
    rw [hlen] at hlt
    have hc : cnt (val (r.take n.toNat)) = n.toNat := by
      apply cnt_eq _ _ (by omega) ?_ hlt
      by_cases hn : n.toNat = 0
      · exact .inl hn
      · right
        cases hr : r.take n.toNat with
        | nil => rw [hr] at hlen; simp at hlen; omega
        | cons b l =>
          have hrh : r.head? = some b := by
            cases r with
            | nil => simp at hr
            | cons b' r' =>
              obtain ⟨m, hm⟩ := Nat.exists_eq_succ_of_ne_zero hn
              rw [hm, Nat.succ_eq_add_one, List.take_succ_cons] at hr
              simp at hr ⊢; exact hr.1
          have hb : b ≠ 0 := by
            intro hb; apply hh; rw [hrh, hb]; exact ⟨by omega, rfl⟩
          have hb' : 0 < b.toNat := by
            rcases Nat.eq_zero_or_pos b.toNat with h | h
            · exfalso; apply hb; apply UInt8.toNat_inj.1; simpa using h
            · exact h
          have hl' : l.length = n.toNat - 1 := by
            have := hlen; rw [hr] at this; simp at this; omega
          rw [val_cons, hl']
          have := Nat.le_mul_of_pos_left (256 ^ (n.toNat - 1)) hb'
          omega
    refine ⟨?_, ?_⟩
    · have e1 : low n.toNat (val (r.take n.toNat)) = r.take n.toNat := by
        have := low_val (r.take n.toNat); rwa [hlen] at this
      rw [numL, hc, e1, List.cons_append, List.take_append_drop]
      simp
    · have : 256 ^ n.toNat ≤ 256 ^ 8 := Nat.pow_le_pow_right (by omega) (by omega)
      have e : (256 : Nat) ^ 8 = 2 ^ 64 := by decide
      omega

theorem numL_inj (a b : Nat) (ha : a < 2 ^ 64) (hb : b < 2 ^ 64) : numL a = numL b ↔ a = b := by
  constructor
  · intro h
    have h1 := take_num a ha []
    rw [h, take_num b hb []] at h1
    simp at h1; exact h1.symm
  · rintro rfl; rfl

/-! ### Lengths, texts, rows -/
def lenL (n : Nat) : List UInt8 := if n ≤ 250 then [UInt8.ofNat n] else [251, UInt8.ofNat (n / 256), UInt8.ofNat (n % 256)]

/-- A length, what stands behind it, and the answer: whatever the bound. -/
def sizeL : List UInt8 → Nat × List UInt8 × Nat
  | [] => (0, [], 2)
  | n :: r => if n.toNat ≤ 250 then (n.toNat, r, 0) else if 251 < n.toNat then (0, [], 3) else
    match r with
    | a :: b :: r' => if 256 * a.toNat + b.toNat ≤ 250 then (0, [], 3) else (256 * a.toNat + b.toNat, r', 0)
    | _ => (0, [], 2)

/-- The same, at most so much. -/
def takeLenL (s : List UInt8) (most : Int) : Nat × List UInt8 × Nat :=
  if (sizeL s).2.2 ≠ 0 then (0, [], (sizeL s).2.2) else if most < (sizeL s).1 then (0, [], 4) else sizeL s

def textL (t : List UInt8) : List UInt8 × Nat := if 65535 < t.length then ([], 4) else (lenL t.length ++ t, 0)

def takeTextL (s : List UInt8) (most : Int) : List UInt8 × List UInt8 × Nat :=
  if (takeLenL s most).2.2 ≠ 0 then ([], [], (takeLenL s most).2.2)
  else if (takeLenL s most).2.1.length < (takeLenL s most).1 then ([], [], 2)
  else ((takeLenL s most).2.1.take (takeLenL s most).1, (takeLenL s most).2.1.drop (takeLenL s most).1, 0)

theorem size_len (n : Nat) (h : n ≤ 65535) (more : List UInt8) : sizeL (lenL n ++ more) = (n, more, 0) := by
  unfold lenL
  by_cases h1 : n ≤ 250
  · have e : (UInt8.ofNat n).toNat = n := by simp; omega
    rw [if_pos h1]
    simp only [List.cons_append, List.nil_append, sizeL]
    rw [if_pos (by omega), e]
  · have e1 : (UInt8.ofNat (n / 256)).toNat = n / 256 := by simp; omega
    have e2 : (UInt8.ofNat (n % 256)).toNat = n % 256 := by simp
    rw [if_neg h1]
    simp only [List.cons_append, List.nil_append, sizeL]
    rw [if_neg (by decide), if_neg (by decide), e1, e2, if_neg (by omega)]
    have : 256 * (n / 256) + n % 256 = n := by omega
    rw [this]

theorem takeLen_len (n : Nat) (h : n ≤ 65535) (most : Int) (hm : (n : Int) ≤ most) (more : List UInt8) : takeLenL (lenL n ++ more) most = (n, more, 0) := by
  simp only [takeLenL, size_len n h more]
  simp; omega

theorem takeText_text (t : List UInt8) (h : t.length ≤ 65535) (most : Int) (hm : (t.length : Int) ≤ most) (more : List UInt8) : takeTextL (lenL t.length ++ t ++ more) most = (t, more, 0) := by
  simp only [takeTextL, List.append_assoc, takeLen_len t.length h most hm]
  simp
/-- A row's texts, one behind the other. -/
def body : List (List UInt8) → List UInt8
  | [] => []
  | t :: r => lenL t.length ++ t ++ body r
def rowOk (ss : List (List UInt8)) : Bool := decide (ss.length ≤ 65535) && ss.all fun t => decide (t.length ≤ 65535)
def rowL (ss : List (List UInt8)) : List UInt8 × Nat := if rowOk ss = true then (lenL ss.length ++ body ss, 0) else ([], 4)

theorem body_append (a b : List (List UInt8)) : body (a ++ b) = body a ++ body b := by
  induction a with
  | nil => rfl
  | cons t a ih => simp [body, ih]
theorem body_snoc (a : List (List UInt8)) (t : List UInt8) : body (a ++ [t]) = body a ++ (lenL t.length ++ t) := by
  simp [body_append, body]
theorem lenL_le (n : Nat) : (lenL n).length ≤ 3 := by unfold lenL; split <;> simp
theorem lenL_pos (n : Nat) : 1 ≤ (lenL n).length := by unfold lenL; split <;> simp
theorem body_length (ss : List (List UInt8)) (h : ∀ t ∈ ss, t.length ≤ 65535) : (body ss).length ≤ ss.length * 65538 := by
  induction ss with
  | nil => simp [body]
  | cons t r ih =>
    have h1 := h t (by simp)
    have h2 := ih (fun x hx => h x (by simp [hx]))
    have h3 := lenL_le t.length
    simp [body]; omega
theorem rowOk_iff (ss : List (List UInt8)) : rowOk ss = true ↔ ss.length ≤ 65535 ∧ ∀ t ∈ ss, t.length ≤ 65535 := by
  simp [rowOk]
end Go.Proofs.Ytpfpkpaodlmlaaa.Lm
namespace Go.Proofs.Ytpfpkpaodlmlaaa.Lm
/-- n texts, one behind the other. -/
def takeN : Nat → List UInt8 → Int → List (List UInt8) × List UInt8 × Nat
  | 0, s, _ => ([], s, 0)
  | n + 1, s, most =>
    if (takeTextL s most).2.2 ≠ 0 then ([], [], (takeTextL s most).2.2)
    else if (takeN n (takeTextL s most).2.1 most).2.2 ≠ 0 then ([], [], (takeN n (takeTextL s most).2.1 most).2.2)
    else ((takeTextL s most).1 :: (takeN n (takeTextL s most).2.1 most).1, (takeN n (takeTextL s most).2.1 most).2.1, 0)
def takeRowL (s : List UInt8) (many most : Int) : List (List UInt8) × List UInt8 × Nat :=
  if (takeLenL s many).2.2 ≠ 0 then ([], [], (takeLenL s many).2.2) else takeN (takeLenL s many).1 (takeLenL s many).2.1 most
/-- What was taken ahead, and what is taken then. -/
def pre (l : List (List UInt8)) (x : List (List UInt8) × List UInt8 × Nat) : List (List UInt8) × List UInt8 × Nat :=
  if x.2.2 ≠ 0 then ([], [], x.2.2) else (l ++ x.1, x.2.1, 0)
theorem pre_nil (x : List (List UInt8) × List UInt8 × Nat) (h : x.2.2 ≠ 0 → x.1 = [] ∧ x.2.1 = []) : pre [] x = x := by
  obtain ⟨a, b, c⟩ := x
  unfold pre
  by_cases hc : c = 0
  · simp [hc]
  · have := h hc; simp at this; simp [hc, this]
theorem takeN_bad (n : Nat) (s : List UInt8) (most : Int) : (takeN n s most).2.2 ≠ 0 → (takeN n s most).1 = [] ∧ (takeN n s most).2.1 = [] := by
  cases n with
  | zero => simp [takeN]
  | succ n =>
    rw [takeN]
    split
    · simp
    · split
      · simp
      · simp
theorem pre_step_bad (l : List (List UInt8)) (n : Nat) (s : List UInt8) (most : Int) (h : (takeTextL s most).2.2 ≠ 0) : pre l (takeN (n + 1) s most) = ([], [], (takeTextL s most).2.2) := by
  rw [takeN, if_pos h, pre, if_pos h]
theorem pre_step_ok (l : List (List UInt8)) (n : Nat) (s : List UInt8) (most : Int) (h : (takeTextL s most).2.2 = 0) : pre l (takeN (n + 1) s most) = pre (l ++ [(takeTextL s most).1]) (takeN n (takeTextL s most).2.1 most) := by
  rw [takeN, if_neg (by omega)]
  by_cases h2 : (takeN n (takeTextL s most).2.1 most).2.2 = 0
  · rw [if_neg (by omega)]
    simp [pre, h2]
  · rw [if_pos h2]
    simp [pre, h2]
theorem takeN_body (ss : List (List UInt8)) (h : ∀ t ∈ ss, t.length ≤ 65535) (most : Int) (hm : 65535 ≤ most) (more : List UInt8) : takeN ss.length (body ss ++ more) most = (ss, more, 0) := by
  induction ss with
  | nil => simp [takeN, body]
  | cons t r ih =>
    have h1 := h t (by simp)
    have h2 := ih (fun x hx => h x (by simp [hx]))
    have h3 := takeText_text t h1 most (by omega) (body r ++ more)
    rw [List.length_cons, takeN, body, List.append_assoc, h3]
    simp [h2]
theorem takeRow_row (ss : List (List UInt8)) (h : rowOk ss = true) (more : List UInt8) : takeRowL (lenL ss.length ++ body ss ++ more) ss.length 65535 = (ss, more, 0) := by
  rw [rowOk_iff] at h
  unfold takeRowL
  rw [List.append_assoc, takeLen_len ss.length h.1 ss.length (Int.le_refl _)]
  simp [takeN_body ss h.2 65535 (Int.le_refl _) more]
theorem row_inj (a b : List (List UInt8)) (ha : rowOk a = true) (hb : rowOk b = true) : lenL a.length ++ body a = lenL b.length ++ body b ↔ a = b := by
  constructor
  · intro h
    have h1 := takeRow_row a ha []
    have h2 := takeRow_row b hb []
    simp only [List.append_nil] at h1 h2
    have e1 := size_len a.length ((rowOk_iff a).1 ha).1 (body a)
    have e2 := size_len b.length ((rowOk_iff b).1 hb).1 (body b)
    rw [h, e2] at e1
    simp only [Prod.mk.injEq] at e1
    rw [h, ← e1.1] at h1
    rw [h1] at h2
    simp only [Prod.mk.injEq] at h2
    exact h2.1
  · rintro rfl; rfl
/-! ### Of a row's bytes no beginning is one -/
theorem takeText_short (t : List UInt8) (h : t.length ≤ 65535) (c : Nat) (hc : c < (lenL t.length ++ t).length) (most : Int) (hm : 65535 ≤ most) : (takeTextL ((lenL t.length ++ t).take c) most).2.2 = 2 := by
  by_cases hc2 : (lenL t.length).length ≤ c
  · have e : (lenL t.length ++ t).take c = lenL t.length ++ t.take (c - (lenL t.length).length) := by
      rw [List.take_append, List.take_of_length_le hc2]
    rw [e]
    simp only [takeTextL, takeLen_len t.length h most (by omega)]
    simp only [List.length_append] at hc
    have : (t.take (c - (lenL t.length).length)).length < t.length := by simp; omega
    rw [if_neg (by simp), if_pos this]
  · have hsz : sizeL ((lenL t.length ++ t).take c) = (0, [], 2) := by
      rw [List.take_append_of_le_length (by omega)]
      unfold lenL at hc2 ⊢
      by_cases h1 : t.length ≤ 250
      · rw [if_pos h1] at hc2 ⊢
        have : c = 0 := by simp at hc2; exact hc2
        subst this; rfl
      · rw [if_neg h1] at hc2 ⊢
        have : c = 0 ∨ c = 1 ∨ c = 2 := by simp at hc2; omega
        rcases this with rfl | rfl | rfl
        · rfl
        · rfl
        · rfl
    simp [takeTextL, takeLenL, hsz]
theorem takeLen_short (n : Nat) (c : Nat) (hc : c < (lenL n).length) (most : Int) : takeLenL ((lenL n).take c) most = (0, [], 2) := by
  have hsz : sizeL ((lenL n).take c) = (0, [], 2) := by
    unfold lenL at hc ⊢
    by_cases h1 : n ≤ 250
    · rw [if_pos h1] at hc ⊢
      have : c = 0 := by simp at hc; exact hc
      subst this; rfl
    · rw [if_neg h1] at hc ⊢
      have : c = 0 ∨ c = 1 ∨ c = 2 := by simp at hc; omega
      rcases this with rfl | rfl | rfl
      · rfl
      · rfl
      · rfl
  simp [takeLenL, hsz]
theorem takeN_short (ss : List (List UInt8)) (h : ∀ t ∈ ss, t.length ≤ 65535) (c : Nat) (hc : c < (body ss).length) (most : Int) (hm : 65535 ≤ most) : (takeN ss.length ((body ss).take c) most).2.2 = 2 := by
  induction ss generalizing c with
  | nil => simp [body] at hc
  | cons t r ih =>
    have h1 := h t (by simp)
    rw [List.length_cons, takeN, body]
    by_cases hc2 : c < (lenL t.length ++ t).length
    · rw [List.take_append_of_le_length (by omega)]
      have h2 := takeText_short t h1 c hc2 most hm
      simp [h2]
    · have e : (lenL t.length ++ t ++ body r).take c = lenL t.length ++ t ++ (body r).take (c - (lenL t.length ++ t).length) := by
        rw [List.take_append, List.take_of_length_le (by omega)]
      rw [e, takeText_text t h1 most (by omega)]
      have hc' : c - (lenL t.length ++ t).length < (body r).length := by
        rw [body] at hc; simp only [List.length_append] at hc hc2 ⊢; omega
      have h3 := ih (fun x hx => h x (by simp [hx])) _ hc'
      simp only [h3]
      simp
theorem takeRow_short (ss : List (List UInt8)) (h : rowOk ss = true) (c : Nat) (hc : c < (lenL ss.length ++ body ss).length) : (takeRowL ((lenL ss.length ++ body ss).take c) ss.length 65535).2.2 = 2 := by
  rw [rowOk_iff] at h
  unfold takeRowL
  by_cases hc2 : c < (lenL ss.length).length
  · rw [List.take_append_of_le_length (by omega), takeLen_short ss.length c hc2]
    simp
  · have e : (lenL ss.length ++ body ss).take c = lenL ss.length ++ (body ss).take (c - (lenL ss.length).length) := by
      rw [List.take_append, List.take_of_length_le (by omega)]
    rw [e, takeLen_len ss.length h.1 ss.length (Int.le_refl _)]
    simp only [List.length_append] at hc
    have := takeN_short ss h.2 (c - (lenL ss.length).length) (by omega) 65535 (Int.le_refl _)
    simp [this]
theorem takeNum_short (v : Nat) (c : Nat) (hc : c < (numL v).length) : (takeNumL ((numL v).take c)).2.2 = 2 := by
  rw [numL_length] at hc
  unfold numL
  cases c with
  | zero => rfl
  | succ c =>
    rw [List.take_succ_cons, takeNumL, ofNat_cnt]
    have h8 := cnt_le v
    have hl : ((low (cnt v) v).take c).length < cnt v := by simp [low_length]; omega
    rw [if_neg (by omega), if_pos hl]
end Go.Proofs.Ytpfpkpaodlmlaaa.Lm
namespace Go.Proofs.Ytpfpkpaodlmlaaa
set_option maxRecDepth 100000
theorem sizeL_bd (l : List UInt8) : (Lm.sizeL l).1 ≤ 65535 ∧ (Lm.sizeL l).2.1.length ≤ l.length := by
  unfold Lm.sizeL
  split
  · simp
  · rename_i n r
    have := n.toNat_lt
    split
    · simp; omega
    · split
      · simp
      · split
        · rename_i a b r'
          have := a.toNat_lt
          have := b.toNat_lt
          split <;> simp <;> omega
        · simp
theorem takeLenL_bd (l : List UInt8) (most : Int) : (Lm.takeLenL l most).1 ≤ 65535 ∧ (Lm.takeLenL l most).2.1.length ≤ l.length := by
  have := sizeL_bd l
  unfold Lm.takeLenL
  split
  · simp
  · split
    · simp
    · exact this
theorem takeTextL_bd (l : List UInt8) (most : Int) : (Lm.takeTextL l most).1.length ≤ 65535 ∧ (Lm.takeTextL l most).2.1.length ≤ l.length := by
  have := takeLenL_bd l most
  unfold Lm.takeTextL
  split
  · simp
  · split
    · simp
    · simp; omega
end Go.Proofs.Ytpfpkpaodlmlaaa
namespace Go.Proofs.Ytpfpkpaodlmlaaa
set_option maxRecDepth 100000
set_option linter.unusedVariables false
/-- An event: kind, transaction, key, value. -/
abbrev Ev := Int × Int × List UInt8 × List UInt8
abbrev keyedE (k : Int) : Prop := k = 2 ∨ k = 3
abbrev mayE (x : Ev) : Prop := (1 ≤ x.1 ∧ x.1 ≤ 5 ∧ 1 ≤ x.2.1 ∧ x.2.1 ≤ 32) ∧ (if keyedE x.1 then (1 ≤ x.2.2.1.length ∧ x.2.2.1.length ≤ 32 ∧ x.2.2.2.length ≤ 32 ∧ (x.1 = 2 ∨ 1 ≤ x.2.2.2.length)) else (x.2.2.1 = [] ∧ x.2.2.2 = []))
def txtE (t : List UInt8) : List UInt8 := Lm.lenL t.length ++ t
/-- The bytes of an event that may be. -/
def bytE (x : Ev) : List UInt8 := UInt8.ofNat x.1.toNat :: UInt8.ofNat x.2.1.toNat :: (if keyedE x.1 then txtE x.2.2.1 ++ txtE x.2.2.2 else [])
def bytesE (x : Ev) : List UInt8 × Nat := if mayE x then (bytE x, 0) else ([], 1)
/-- The event of bytes. -/
def takeE (s : List UInt8) : Option Ev :=
  match s with
  | a :: b :: r =>
    if keyedE (a.toNat : Int) then
      if (Lm.takeTextL r 32).2.2 ≠ 0 then none
      else if (Lm.takeTextL (Lm.takeTextL r 32).2.1 32).2.2 ≠ 0 ∨ 0 < (Lm.takeTextL (Lm.takeTextL r 32).2.1 32).2.1.length then none
      else if mayE ((a.toNat : Int), (b.toNat : Int), (Lm.takeTextL r 32).1, (Lm.takeTextL (Lm.takeTextL r 32).2.1 32).1) then some ((a.toNat : Int), (b.toNat : Int), (Lm.takeTextL r 32).1, (Lm.takeTextL (Lm.takeTextL r 32).2.1 32).1) else none
    else if 0 < r.length ∨ ¬ mayE ((a.toNat : Int), (b.toNat : Int), [], []) then none else some ((a.toNat : Int), (b.toNat : Int), [], [])
  | _ => none
theorem size_take (s : List UInt8) (n : Nat) (r : List UInt8) (h : Lm.sizeL s = (n, r, 0)) : Lm.lenL n ++ r = s ∧ n ≤ 65535 := by
  unfold Lm.sizeL at h
  match s, h with
  | [], h => simp at h
  | c :: q, h =>
    simp only at h
    by_cases h1 : c.toNat ≤ 250
    · rw [if_pos h1] at h
      simp only [Prod.mk.injEq] at h
      obtain ⟨rfl, rfl, _⟩ := h
      unfold Lm.lenL
      rw [if_pos h1]
      exact ⟨by simp, by omega⟩
    · rw [if_neg h1] at h
      by_cases h2 : 251 < c.toNat
      · rw [if_pos h2] at h; simp at h
      · rw [if_neg h2] at h
        have hc : c = 251 := by apply UInt8.toNat_inj.1; show c.toNat = 251; omega
        match q, h with
        | [], h => simp at h
        | [_], h => simp at h
        | a :: b :: q', h =>
          simp only at h
          have ha := a.toNat_lt
          have hb := b.toNat_lt
          by_cases h3 : 256 * a.toNat + b.toNat ≤ 250
          · rw [if_pos h3] at h; simp at h
          · rw [if_neg h3] at h
            simp only [Prod.mk.injEq] at h
            obtain ⟨rfl, rfl, _⟩ := h
            unfold Lm.lenL
            rw [if_neg h3, hc]
            refine ⟨?_, by omega⟩
            have e1 : UInt8.ofNat ((256 * a.toNat + b.toNat) / 256) = a := by apply UInt8.toNat_inj.1; rw [UInt8.toNat_ofNat']; omega
            have e2 : UInt8.ofNat ((256 * a.toNat + b.toNat) % 256) = b := by apply UInt8.toNat_inj.1; rw [UInt8.toNat_ofNat']; omega
            rw [e1, e2]; rfl
theorem text_take (s t r : List UInt8) (most : Int) (h : Lm.takeTextL s most = (t, r, 0)) : Lm.lenL t.length ++ t ++ r = s ∧ t.length ≤ 65535 ∧ (t.length : Int) ≤ most := by
  unfold Lm.takeTextL at h
  by_cases h1 : (Lm.takeLenL s most).2.2 ≠ 0
  · rw [if_pos h1] at h; simp only [Prod.mk.injEq] at h; exact absurd h.2.2 h1
  · rw [if_neg h1] at h
    by_cases h2 : (Lm.takeLenL s most).2.1.length < (Lm.takeLenL s most).1
    · rw [if_pos h2] at h; simp at h
    · rw [if_neg h2] at h
      simp only [Prod.mk.injEq] at h
      obtain ⟨rfl, rfl, _⟩ := h
      have hL : Lm.takeLenL s most = Lm.sizeL s ∧ (Lm.sizeL s).2.2 = 0 ∧ ((Lm.sizeL s).1 : Int) ≤ most := by
        unfold Lm.takeLenL at h1 ⊢
        by_cases h3 : (Lm.sizeL s).2.2 ≠ 0
        · rw [if_pos h3] at h1; simp at h1; exact absurd h1 h3
        · rw [if_neg h3] at h1 ⊢
          by_cases h4 : most < (Lm.sizeL s).1
          · rw [if_pos h4] at h1; simp at h1
          · rw [if_neg h4]; exact ⟨rfl, by omega, by omega⟩
      rw [hL.1] at h2 ⊢
      have hz := size_take s (Lm.sizeL s).1 (Lm.sizeL s).2.1 (by rw [← hL.2.1])
      have hn : ((Lm.sizeL s).2.1.take (Lm.sizeL s).1).length = (Lm.sizeL s).1 := by rw [List.length_take]; omega
      rw [hn, List.append_assoc, List.take_append_drop]
      exact ⟨hz.1, hz.2, hL.2.2⟩
theorem txt_taken (t : List UInt8) (h : t.length ≤ 32) (r : List UInt8) : Lm.takeTextL (txtE t ++ r) 32 = (t, r, 0) := Lm.takeText_text t (by omega) 32 (by omega) r
theorem may_bytes (x : Ev) (h : mayE x) : (UInt8.ofNat x.1.toNat).toNat = x.1.toNat ∧ (UInt8.ofNat x.2.1.toNat).toNat = x.2.1.toNat ∧ ((x.1.toNat : Nat) : Int) = x.1 ∧ ((x.2.1.toNat : Nat) : Int) = x.2.1 := by
  obtain ⟨⟨h1, h2, h3, h4⟩, _⟩ := h
  refine ⟨?_, ?_, by omega, by omega⟩
  · simp; omega
  · simp; omega
/-- What was written is taken, with nothing behind. -/
theorem take_byt (x : Ev) (h : mayE x) (m : List UInt8) : takeE (bytE x ++ m) = if m = [] then some x else none := by
  obtain ⟨e1, e2, e3, e4⟩ := may_bytes x h
  have hx : x = (x.1, x.2.1, x.2.2.1, x.2.2.2) := rfl
  unfold bytE takeE
  by_cases hk : keyedE x.1
  · rw [if_pos hk]
    obtain ⟨h0, h5⟩ := h
    have h5' := h5
    rw [if_pos hk] at h5
    obtain ⟨k1, k2, k3, k4⟩ := h5
    simp only [List.cons_append, e1, e2, e3, e4]
    rw [if_pos hk, List.append_assoc, txt_taken x.2.2.1 k2]
    simp only
    rw [if_neg (by simp), txt_taken x.2.2.2 k3 m]
    simp only
    by_cases hm : m = []
    · subst hm
      rw [if_neg (by simp), if_pos ⟨h0, h5'⟩, if_pos rfl]
    · rw [if_pos (Or.inr (List.length_pos_iff.2 hm)), if_neg hm]
  · rw [if_neg hk]
    obtain ⟨h0, h5⟩ := h
    have h5' := h5
    rw [if_neg hk] at h5
    simp only [List.cons_append, List.nil_append, e1, e2, e3, e4]
    rw [if_neg hk]
    have ex : (x.1, x.2.1, ([] : List UInt8), ([] : List UInt8)) = x := by rw [hx]; simp only [h5.1, h5.2]
    by_cases hm : m = []
    · subst hm
      rw [if_neg (by intro hh; rcases hh with hh | hh; simp at hh; exact hh (by rw [ex]; exact ⟨h0, h5'⟩)), if_pos rfl, ex]
    · rw [if_pos (Or.inl (List.length_pos_iff.2 hm)), if_neg hm]
/-- What is taken may be, and is written by the same bytes. -/
theorem byt_take (s : List UInt8) (x : Ev) (h : takeE s = some x) : mayE x ∧ bytE x = s := by
  unfold takeE at h
  match s, h with
  | [], h => cases h
  | [_], h => cases h
  | a :: b :: r, h =>
    simp only at h
    by_cases hk : keyedE (a.toNat : Int)
    · rw [if_pos hk] at h
      by_cases h1 : (Lm.takeTextL r 32).2.2 ≠ 0
      · rw [if_pos h1] at h; cases h
      · rw [if_neg h1] at h
        by_cases h2 : (Lm.takeTextL (Lm.takeTextL r 32).2.1 32).2.2 ≠ 0 ∨ 0 < (Lm.takeTextL (Lm.takeTextL r 32).2.1 32).2.1.length
        · rw [if_pos h2] at h; cases h
        · rw [if_neg h2] at h
          by_cases h3 : mayE ((a.toNat : Int), (b.toNat : Int), (Lm.takeTextL r 32).1, (Lm.takeTextL (Lm.takeTextL r 32).2.1 32).1)
          · rw [if_pos h3] at h
            cases h
            refine ⟨h3, ?_⟩
            have t1 := text_take r (Lm.takeTextL r 32).1 (Lm.takeTextL r 32).2.1 32 (by rw [show (0 : Nat) = (Lm.takeTextL r 32).2.2 by omega])
            have t2 := text_take (Lm.takeTextL r 32).2.1 (Lm.takeTextL (Lm.takeTextL r 32).2.1 32).1 (Lm.takeTextL (Lm.takeTextL r 32).2.1 32).2.1 32 (by rw [show (0 : Nat) = (Lm.takeTextL (Lm.takeTextL r 32).2.1 32).2.2 by omega])
            have t3 : (Lm.takeTextL (Lm.takeTextL r 32).2.1 32).2.1 = [] := List.length_eq_zero_iff.1 (by omega)
            rw [t3, List.append_nil] at t2
            unfold bytE
            simp only
            rw [if_pos hk]
            have ea : UInt8.ofNat ((a.toNat : Int).toNat) = a := by simp
            have eb : UInt8.ofNat ((b.toNat : Int).toNat) = b := by simp
            rw [ea, eb]
            unfold txtE
            rw [t2.1, t1.1]
          · rw [if_neg h3] at h; cases h
    · rw [if_neg hk] at h
      by_cases h1 : 0 < r.length ∨ ¬ mayE ((a.toNat : Int), (b.toNat : Int), [], [])
      · rw [if_pos h1] at h; cases h
      · rw [if_neg h1] at h
        cases h
        have hm : mayE ((a.toNat : Int), (b.toNat : Int), [], []) := Classical.byContradiction fun hh => h1 (Or.inr hh)
        refine ⟨hm, ?_⟩
        have hr : r = [] := List.length_eq_zero_iff.1 (by omega)
        unfold bytE
        simp only
        rw [if_neg hk, hr]
        have ea : UInt8.ofNat ((a.toNat : Int).toNat) = a := by simp
        have eb : UInt8.ofNat ((b.toNat : Int).toNat) = b := by simp
        rw [ea, eb]
theorem byt_inj (x y : Ev) (hx : mayE x) (hy : mayE y) (h : bytE x = bytE y) : x = y := by
  have h1 := take_byt x hx []
  have h2 := take_byt y hy []
  rw [List.append_nil, if_pos rfl] at h1 h2
  rw [h, h2] at h1
  exact (Option.some.inj h1).symm
/-- Of what was written no beginning is taken. -/
theorem take_cut (x : Ev) (hx : mayE x) (c : Nat) (hc : c < (bytE x).length) : takeE ((bytE x).take c) = none := by
  cases hy : takeE ((bytE x).take c) with
  | none => rfl
  | some y =>
    obtain ⟨my, by'⟩ := byt_take _ y hy
    exfalso
    have h1 := take_byt y my ((bytE x).drop c)
    rw [by', List.take_append_drop] at h1
    have h2 := take_byt x hx []
    rw [List.append_nil, if_pos rfl] at h2
    rw [if_neg (by intro h; have := congrArg List.length h; rw [List.length_drop] at this; simp at this; omega)] at h1
    rw [h1] at h2
    cases h2
end Go.Proofs.Ytpfpkpaodlmlaaa
namespace Go.Proofs.Ytpfpkpaodlmlaaa
set_option maxRecDepth 100000
set_option linter.unusedVariables false
/-- The first number below n of which p says so; the last one. -/
def fi (p : Nat → Bool) (n : Nat) : Option Nat := (List.range n).find? p
def la (p : Nat → Bool) : Nat → Option Nat
  | 0 => none
  | n + 1 => if p n = true then some n else la p n
theorem fi_zero (p : Nat → Bool) : fi p 0 = none := rfl
theorem fi_succ (p : Nat → Bool) (n : Nat) : fi p (n + 1) = (fi p n).or (if p n = true then some n else none) := by
  unfold fi
  rw [List.range_succ, List.find?_append]
  congr 1
  by_cases h : p n = true
  · rw [if_pos h, List.find?_cons_of_pos h]
  · rw [if_neg h, List.find?_cons_of_neg h]; rfl
theorem fi_none (p : Nat → Bool) (n : Nat) : fi p n = none ↔ ∀ i, i < n → p i = false := by
  unfold fi
  rw [List.find?_eq_none]
  constructor
  · intro h i hi
    have := h i (List.mem_range.2 hi)
    simpa using this
  · intro h i hi
    have := h i (List.mem_range.1 hi)
    simp [this]
theorem fi_some (p : Nat → Bool) : ∀ (n i : Nat), fi p n = some i ↔ i < n ∧ p i = true ∧ ∀ j, j < i → p j = false
  | 0, i => by rw [fi_zero]; constructor; intro h; cases h; intro h; omega
  | n + 1, i => by
    rw [fi_succ]
    cases hf : fi p n with
    | none =>
      have hn := (fi_none p n).1 hf
      rw [Option.none_or]
      by_cases h : p n = true
      · rw [if_pos h]
        constructor
        · intro e; cases e; exact ⟨by omega, h, hn⟩
        · intro ⟨h1, h2, h3⟩
          rcases Nat.lt_or_ge i n with hi | hi
          · have := hn i hi; rw [h2] at this; cases this
          · rw [show i = n by omega]
      · rw [if_neg h]
        constructor
        · intro e; cases e
        · intro ⟨h1, h2, h3⟩
          rcases Nat.lt_or_ge i n with hi | hi
          · have := hn i hi; rw [h2] at this; cases this
          · rw [show i = n by omega] at h2; exact absurd h2 h
    | some k =>
      have hk := (fi_some p n k).1 hf
      rw [Option.some_or]
      constructor
      · intro e; cases e; exact ⟨by omega, hk.2.1, hk.2.2⟩
      · intro ⟨h1, h2, h3⟩
        rcases Nat.lt_trichotomy i k with hi | hi | hi
        · have := hk.2.2 i hi; rw [h2] at this; cases this
        · rw [hi]
        · have := h3 k hi; rw [hk.2.1] at this; cases this
theorem fi_congr {p q : Nat → Bool} {n : Nat} (h : ∀ i, i < n → p i = q i) : fi p n = fi q n := by
  cases hf : fi q n with
  | none => rw [fi_none] at hf ⊢; intro i hi; rw [h i hi]; exact hf i hi
  | some k =>
    rw [fi_some] at hf ⊢
    exact ⟨hf.1, by rw [h k hf.1]; exact hf.2.1, fun j hj => by rw [h j (by omega)]; exact hf.2.2 j hj⟩
theorem la_some (p : Nat → Bool) : ∀ (n i : Nat), la p n = some i ↔ i < n ∧ p i = true ∧ ∀ j, i < j → j < n → p j = false
  | 0, i => by rw [la]; constructor; intro h; cases h; intro h; omega
  | n + 1, i => by
    rw [la]
    by_cases h : p n = true
    · rw [if_pos h]
      constructor
      · intro e; cases e; exact ⟨by omega, h, fun j h1 h2 => by omega⟩
      · intro ⟨h1, h2, h3⟩
        rcases Nat.lt_or_ge i n with hi | hi
        · have := h3 n hi (by omega); rw [h] at this; cases this
        · rw [show i = n by omega]
    · rw [if_neg h, la_some p n i]
      constructor
      · intro ⟨h1, h2, h3⟩
        refine ⟨by omega, h2, fun j hj hn => ?_⟩
        rcases Nat.lt_or_ge j n with hjn | hjn
        · exact h3 j hj hjn
        · rw [show j = n by omega]; simpa using h
      · intro ⟨h1, h2, h3⟩
        rcases Nat.lt_or_ge i n with hi | hi
        · exact ⟨hi, h2, fun j hj hn => h3 j hj (by omega)⟩
        · rw [show i = n by omega] at h2; exact absurd h2 h
theorem la_none (p : Nat → Bool) : ∀ (n : Nat), la p n = none ↔ ∀ i, i < n → p i = false
  | 0 => by rw [la]; exact ⟨fun _ i hi => by omega, fun _ => rfl⟩
  | n + 1 => by
    rw [la]
    by_cases h : p n = true
    · rw [if_pos h]
      constructor
      · intro e; cases e
      · intro hh; have := hh n (by omega); rw [h] at this; cases this
    · rw [if_neg h, la_none p n]
      constructor
      · intro hh i hi
        rcases Nat.lt_or_ge i n with hin | hin
        · exact hh i hin
        · rw [show i = n by omega]; simpa using h
      · intro hh i hi; exact hh i (by omega)
def oI : Option Nat → Int
  | none => -1
  | some i => (i : Int)
/-- The event at a place. -/
def ev (h : List Ev) (i : Nat) : Ev := h.getD i (0, 0, [], [])
theorem ev_get (h : List Ev) (i : Nat) (hi : i < h.length) : ev h i = h[i] := by unfold ev; rw [List.getD_eq_getElem?_getD, List.getElem?_eq_getElem hi]; rfl
theorem ev_left (a b : List Ev) (i : Nat) (hi : i < a.length) : ev (a ++ b) i = ev a i := by
  rw [ev_get _ _ (by rw [List.length_append]; omega), ev_get _ _ hi, List.getElem_append_left hi]
theorem ev_right (a b : List Ev) (i : Nat) (hi : i < b.length) : ev (a ++ b) (a.length + i) = ev b i := by
  rw [ev_get _ _ (by rw [List.length_append]; omega), ev_get _ _ hi, List.getElem_append_right (by omega)]
  congr 1; omega
theorem ev_take (h : List Ev) (n i : Nat) (hi : i < n) (hn : n ≤ h.length) : ev (h.take n) i = ev h i := by
  rw [ev_get _ _ (by rw [List.length_take]; omega), ev_get _ _ (by omega), List.getElem_take]
def isEnd (h : List Ev) (t : Int) (i : Nat) : Bool := decide ((ev h i).2.1 = t ∧ ((ev h i).1 = 4 ∨ (ev h i).1 = 5))
def endL (h : List Ev) (t : Int) (n : Nat) : Option Nat := fi (isEnd h t) n
def ofTxn (h : List Ev) (t : Int) (i : Nat) : Bool := decide ((ev h i).2.1 = t)
def fstL (h : List Ev) (t : Int) (n : Nat) : Option Nat := fi (ofTxn h t) n
def isWr (h : List Ev) (key val : List UInt8) (i : Nat) : Bool := decide ((ev h i).1 = 3 ∧ (ev h i).2.2.1 = key ∧ (ev h i).2.2.2 = val)
def writerL (h : List Ev) (key val : List UInt8) : Option Nat := fi (isWr h key val) h.length
def isWrT (h : List Ev) (t : Int) (key : List UInt8) (i : Nat) : Bool := decide ((ev h i).1 = 3 ∧ (ev h i).2.1 = t ∧ (ev h i).2.2.1 = key)
def lastN (h : List Ev) (t : Int) (key : List UInt8) (n : Nat) : Option Nat := la (isWrT h t key) n
def lastL (h : List Ev) (t : Int) (key : List UInt8) (before : Int) : Option Nat := lastN h t key (min h.length before.toNat)
def sameVal (h : List Ev) (v : List UInt8) (i : Nat) : Bool := decide ((ev h i).1 = 3 ∧ (ev h i).2.2.2 = v)
/-- What is wrong with the event at a place (0: nothing). -/
def formStep (h : List Ev) (i : Nat) : Nat :=
  if ¬ mayE (ev h i) then 1
  else if (ev h i).1 = 1 then (if fstL h (ev h i).2.1 i = none then 0 else 8)
  else if fstL h (ev h i).2.1 i = none then 7
  else if endL h (ev h i).2.1 i ≠ none then 9
  else if (ev h i).1 = 3 ∧ fi (sameVal h (ev h i).2.2.2) i ≠ none then 8
  else if (ev h i).1 = 2 ∧ (ev h i).2.2.2 ≠ [] ∧ writerL h (ev h i).2.2.1 (ev h i).2.2.2 = none then 7
  else 0
def wrongAt (h : List Ev) (i : Nat) : Bool := decide (formStep h i ≠ 0)
def openAt (h : List Ev) (i : Nat) : Bool := decide (endL h (ev h i).2.1 h.length = none)
def formedL (h : List Ev) : Nat × Nat :=
  if 256 < h.length then (0, 4) else
  match fi (wrongAt h) h.length with
  | some i => (i, formStep h i)
  | none => if fi (openAt h) h.length = none then (h.length, 0) else (h.length, 9)
/-- Well formed. -/
def WF (h : List Ev) : Prop := h.length ≤ 256 ∧ (∀ i, i < h.length → formStep h i = 0) ∧ ∀ i, i < h.length → endL h (ev h i).2.1 h.length ≠ none
theorem formed_ok (h : List Ev) : (formedL h).2 = 0 ↔ WF h := by
  unfold formedL WF
  by_cases h1 : 256 < h.length
  · rw [if_pos h1]
    constructor
    · intro e; cases e
    · intro e; omega
  · rw [if_neg h1]
    cases hf : fi (wrongAt h) h.length with
    | some i =>
      have hi := (fi_some _ _ _).1 hf
      have hw := of_decide_eq_true hi.2.1
      constructor
      · intro e; exact absurd e hw
      · intro e; exact absurd (e.2.1 i hi.1) hw
    | none =>
      have hn := (fi_none _ _).1 hf
      have hz : ∀ i, i < h.length → formStep h i = 0 := fun i hi => by
        have := of_decide_eq_false (hn i hi); omega
      simp only
      by_cases ho : fi (openAt h) h.length = none
      · rw [if_pos ho]
        have hoo := (fi_none _ _).1 ho
        constructor
        · intro _
          exact ⟨by omega, hz, fun i hi => of_decide_eq_false (hoo i hi)⟩
        · intro _; rfl
      · rw [if_neg ho]
        constructor
        · intro e; cases e
        · intro e
          exfalso
          apply ho
          rw [fi_none]
          intro i hi
          exact decide_eq_false (e.2.2 i hi)
theorem formed_wf (h : List Ev) (hw : WF h) : formedL h = (h.length, 0) := by
  have h2 := (formed_ok h).2 hw
  unfold formedL at h2 ⊢
  rw [if_neg (by have := hw.1; omega)] at h2 ⊢
  have hf : fi (wrongAt h) h.length = none := by
    rw [fi_none]; intro i hi; exact decide_eq_false (by rw [hw.2.1 i hi]; simp)
  rw [hf] at h2 ⊢
  simp only at h2 ⊢
  by_cases ho : fi (openAt h) h.length = none
  · rw [if_pos ho]
  · rw [if_neg ho] at h2; cases h2
theorem formStep_zero (h : List Ev) (i : Nat) : formStep h i = 0 ↔ mayE (ev h i) ∧ ((ev h i).1 = 1 → fstL h (ev h i).2.1 i = none) ∧ ((ev h i).1 ≠ 1 → fstL h (ev h i).2.1 i ≠ none ∧ endL h (ev h i).2.1 i = none ∧ ((ev h i).1 = 3 → fi (sameVal h (ev h i).2.2.2) i = none) ∧ ((ev h i).1 = 2 → (ev h i).2.2.2 ≠ [] → writerL h (ev h i).2.2.1 (ev h i).2.2.2 ≠ none)) := by
  unfold formStep
  by_cases hm : mayE (ev h i)
  · rw [if_neg (fun hh => hh hm)]
    by_cases h1 : (ev h i).1 = 1
    · rw [if_pos h1]
      by_cases hf : fstL h (ev h i).2.1 i = none
      · rw [if_pos hf]; exact ⟨fun _ => ⟨hm, fun _ => hf, fun hh => absurd h1 hh⟩, fun _ => rfl⟩
      · rw [if_neg hf]; exact ⟨fun e => (by cases e), fun e => absurd (e.2.1 h1) hf⟩
    · rw [if_neg h1]
      by_cases hf : fstL h (ev h i).2.1 i = none
      · rw [if_pos hf]; exact ⟨fun e => (by cases e), fun e => absurd hf (e.2.2 h1).1⟩
      · rw [if_neg hf]
        by_cases he : endL h (ev h i).2.1 i = none
        · rw [if_neg (fun hh => hh he)]
          by_cases h3 : (ev h i).1 = 3 ∧ fi (sameVal h (ev h i).2.2.2) i ≠ none
          · rw [if_pos h3]; exact ⟨fun e => (by cases e), fun e => absurd ((e.2.2 h1).2.2.1 h3.1) h3.2⟩
          · rw [if_neg h3]
            by_cases h2 : (ev h i).1 = 2 ∧ (ev h i).2.2.2 ≠ [] ∧ writerL h (ev h i).2.2.1 (ev h i).2.2.2 = none
            · rw [if_pos h2]; exact ⟨fun e => (by cases e), fun e => absurd h2.2.2 ((e.2.2 h1).2.2.2 h2.1 h2.2.1)⟩
            · rw [if_neg h2]
              refine ⟨fun _ => ⟨hm, fun hh => absurd hh h1, fun _ => ⟨hf, he, fun h3' => ?_, fun h2' hv hw => h2 ⟨h2', hv, hw⟩⟩⟩, fun _ => rfl⟩
              exact Classical.byContradiction fun hh => h3 ⟨h3', hh⟩
        · rw [if_pos he]; exact ⟨fun e => (by cases e), fun e => absurd (e.2.2 h1).2.1 he⟩
  · rw [if_pos hm]; exact ⟨fun e => (by cases e), fun e => absurd e.1 hm⟩
end Go.Proofs.Ytpfpkpaodlmlaaa
namespace Go.Proofs.Ytpfpkpaodlmlaaa
set_option maxRecDepth 100000
set_option linter.unusedVariables false
theorem fstL_none (h : List Ev) (t : Int) (n : Nat) : fstL h t n = none ↔ ∀ j, j < n → (ev h j).2.1 ≠ t := by
  unfold fstL; rw [fi_none]
  constructor
  · intro hh j hj; exact of_decide_eq_false (hh j hj)
  · intro hh j hj; exact decide_eq_false (hh j hj)
theorem fstL_some (h : List Ev) (t : Int) (n i : Nat) : fstL h t n = some i ↔ i < n ∧ (ev h i).2.1 = t ∧ ∀ j, j < i → (ev h j).2.1 ≠ t := by
  unfold fstL; rw [fi_some]
  constructor
  · intro ⟨a, b, c⟩; exact ⟨a, of_decide_eq_true b, fun j hj => of_decide_eq_false (c j hj)⟩
  · intro ⟨a, b, c⟩; exact ⟨a, decide_eq_true b, fun j hj => decide_eq_false (c j hj)⟩
abbrev endB (x : Ev) (t : Int) : Prop := x.2.1 = t ∧ (x.1 = 4 ∨ x.1 = 5)
theorem endL_none (h : List Ev) (t : Int) (n : Nat) : endL h t n = none ↔ ∀ j, j < n → ¬ endB (ev h j) t := by
  unfold endL; rw [fi_none]
  constructor
  · intro hh j hj; exact of_decide_eq_false (hh j hj)
  · intro hh j hj; exact decide_eq_false (hh j hj)
theorem endL_some (h : List Ev) (t : Int) (n i : Nat) : endL h t n = some i ↔ i < n ∧ endB (ev h i) t ∧ ∀ j, j < i → ¬ endB (ev h j) t := by
  unfold endL; rw [fi_some]
  constructor
  · intro ⟨a, b, c⟩; exact ⟨a, of_decide_eq_true b, fun j hj => of_decide_eq_false (c j hj)⟩
  · intro ⟨a, b, c⟩; exact ⟨a, decide_eq_true b, fun j hj => decide_eq_false (c j hj)⟩
theorem writerL_none (h : List Ev) (key val : List UInt8) : writerL h key val = none ↔ ∀ j, j < h.length → ¬ ((ev h j).1 = 3 ∧ (ev h j).2.2.1 = key ∧ (ev h j).2.2.2 = val) := by
  unfold writerL; rw [fi_none]
  constructor
  · intro hh j hj; exact of_decide_eq_false (hh j hj)
  · intro hh j hj; exact decide_eq_false (hh j hj)
theorem writerL_some (h : List Ev) (key val : List UInt8) (i : Nat) : writerL h key val = some i ↔ i < h.length ∧ ((ev h i).1 = 3 ∧ (ev h i).2.2.1 = key ∧ (ev h i).2.2.2 = val) ∧ ∀ j, j < i → ¬ ((ev h j).1 = 3 ∧ (ev h j).2.2.1 = key ∧ (ev h j).2.2.2 = val) := by
  unfold writerL; rw [fi_some]
  constructor
  · intro ⟨a, b, c⟩; exact ⟨a, of_decide_eq_true b, fun j hj => of_decide_eq_false (c j hj)⟩
  · intro ⟨a, b, c⟩; exact ⟨a, decide_eq_true b, fun j hj => decide_eq_false (c j hj)⟩
theorem lastN_some (h : List Ev) (t : Int) (key : List UInt8) (n i : Nat) : lastN h t key n = some i ↔ i < n ∧ ((ev h i).1 = 3 ∧ (ev h i).2.1 = t ∧ (ev h i).2.2.1 = key) ∧ ∀ j, i < j → j < n → ¬ ((ev h j).1 = 3 ∧ (ev h j).2.1 = t ∧ (ev h j).2.2.1 = key) := by
  unfold lastN; rw [la_some]
  constructor
  · intro ⟨a, b, c⟩; exact ⟨a, of_decide_eq_true b, fun j hj hn => of_decide_eq_false (c j hj hn)⟩
  · intro ⟨a, b, c⟩; exact ⟨a, decide_eq_true b, fun j hj hn => decide_eq_false (c j hj hn)⟩
theorem lastN_none (h : List Ev) (t : Int) (key : List UInt8) (n : Nat) : lastN h t key n = none ↔ ∀ j, j < n → ¬ ((ev h j).1 = 3 ∧ (ev h j).2.1 = t ∧ (ev h j).2.2.1 = key) := by
  unfold lastN; rw [la_none]
  constructor
  · intro hh j hj; exact of_decide_eq_false (hh j hj)
  · intro hh j hj; exact decide_eq_false (hh j hj)
theorem sameVal_none (h : List Ev) (v : List UInt8) (n : Nat) : fi (sameVal h v) n = none ↔ ∀ j, j < n → ¬ ((ev h j).1 = 3 ∧ (ev h j).2.2.2 = v) := by
  rw [fi_none]
  constructor
  · intro hh j hj; exact of_decide_eq_false (hh j hj)
  · intro hh j hj; exact decide_eq_false (hh j hj)
/-- A transaction's life: number, first place, end, whether it was committed. -/
def findL (h : List Ev) (t : Int) : Option (Int × Nat × Nat × Bool) :=
  match fstL h t h.length with
  | none => none
  | some f => match endL h t h.length with
    | none => some (t, f, h.length, false)
    | some e => some (t, f, e, decide ((ev h e).1 = 4))
def livesL (h : List Ev) : List (Int × Nat × Nat × Bool) := (List.range h.length).filterMap fun i => if fstL h (ev h i).2.1 i = none then findL h (ev h i).2.1 else none
/-- Is the end of a committed transaction that wrote the key. -/
def verOf (h : List Ev) (key : List UInt8) (i : Nat) : Option Nat := if (ev h i).1 = 4 ∧ endL h (ev h i).2.1 h.length = some i then lastN h (ev h i).2.1 key i else none
def versL (h : List Ev) (key : List UInt8) : List Nat := (List.range h.length).filterMap (verOf h key)
section
variable {h : List Ev}
theorem wf_may (hw : WF h) {i : Nat} (hi : i < h.length) : mayE (ev h i) := ((formStep_zero h i).1 (hw.2.1 i hi)).1
theorem wf_first (hw : WF h) {i j : Nat} (hi : i < h.length) (h1 : (ev h i).1 = 1) (hj : j < i) : (ev h j).2.1 ≠ (ev h i).2.1 := (fstL_none _ _ _).1 (((formStep_zero h i).1 (hw.2.1 i hi)).2.1 h1) j hj
theorem wf_had (hw : WF h) {i : Nat} (hi : i < h.length) (h1 : (ev h i).1 ≠ 1) : ∃ j, j < i ∧ (ev h j).2.1 = (ev h i).2.1 := by
  have := (((formStep_zero h i).1 (hw.2.1 i hi)).2.2 h1).1
  cases hf : fstL h (ev h i).2.1 i with
  | none => exact absurd hf this
  | some j => have := (fstL_some _ _ _ _).1 hf; exact ⟨j, this.1, this.2.1⟩
theorem wf_open (hw : WF h) {i j : Nat} (hi : i < h.length) (hj : j < i) : ¬ endB (ev h j) (ev h i).2.1 := by
  by_cases h1 : (ev h i).1 = 1
  · intro he; exact wf_first hw hi h1 hj he.1
  · exact (endL_none _ _ _).1 (((formStep_zero h i).1 (hw.2.1 i hi)).2.2 h1).2.1 j hj
theorem wf_vals (hw : WF h) {i j : Nat} (hi : i < h.length) (h3 : (ev h i).1 = 3) (hj : j < i) (h3' : (ev h j).1 = 3) : (ev h j).2.2.2 ≠ (ev h i).2.2.2 := by
  intro he
  exact (sameVal_none _ _ _).1 ((((formStep_zero h i).1 (hw.2.1 i hi)).2.2 (by rw [h3]; decide)).2.2.1 h3) j hj ⟨h3', he⟩
theorem wf_read (hw : WF h) {i : Nat} (hi : i < h.length) (h2 : (ev h i).1 = 2) (hv : (ev h i).2.2.2 ≠ []) : ∃ j, writerL h (ev h i).2.2.1 (ev h i).2.2.2 = some j := by
  have := (((formStep_zero h i).1 (hw.2.1 i hi)).2.2 (by rw [h2]; decide)).2.2.2 h2 hv
  cases hf : writerL h (ev h i).2.2.1 (ev h i).2.2.2 with
  | none => exact absurd hf this
  | some j => exact ⟨j, rfl⟩
/-- Each transaction has one beginning ahead of all its events, and one end behind them. -/
theorem wf_life (hw : WF h) {i : Nat} (hi : i < h.length) : ∃ f e, fstL h (ev h i).2.1 h.length = some f ∧ endL h (ev h i).2.1 h.length = some e ∧ f ≤ i ∧ i ≤ e ∧ e < h.length ∧ ((ev h i).1 = 1 ↔ i = f) ∧ (4 ≤ (ev h i).1 ↔ i = e) := by
  cases hf : fstL h (ev h i).2.1 h.length with
  | none => exact absurd rfl ((fstL_none _ _ _).1 hf i hi)
  | some f =>
    cases he : endL h (ev h i).2.1 h.length with
    | none => exact absurd he (hw.2.2 i hi)
    | some e =>
      obtain ⟨f1, f2, f3⟩ := (fstL_some _ _ _ _).1 hf
      obtain ⟨e1, e2, e3⟩ := (endL_some _ _ _ _).1 he
      have hfi : f ≤ i := Nat.le_of_not_lt fun hh => f3 i hh rfl
      have hie : i ≤ e := Nat.le_of_not_lt fun hh => wf_open hw hi hh e2
      refine ⟨f, e, rfl, rfl, hfi, hie, e1, ⟨fun h1 => ?_, fun h1 => ?_⟩, ⟨fun h4 => ?_, fun h4 => ?_⟩⟩
      · rcases Nat.lt_or_ge f i with hh | hh
        · exact absurd f2 (wf_first hw hi h1 hh)
        · omega
      · apply Classical.byContradiction
        intro hn
        obtain ⟨j, hj, hjt⟩ := wf_had hw hi hn
        exact f3 j (by omega) hjt
      · have hm := wf_may hw hi
        have hb : endB (ev h i) (ev h i).2.1 := ⟨rfl, by have := hm.1; omega⟩
        rcases Nat.lt_or_ge i e with hh | hh
        · exact absurd hb (e3 i hh)
        · omega
      · subst h4
        rcases e2.2 with hh | hh <;> rw [hh] <;> decide
theorem wf_find (hw : WF h) {i : Nat} (hi : i < h.length) : ∃ f e, findL h (ev h i).2.1 = some ((ev h i).2.1, f, e, decide ((ev h e).1 = 4)) ∧ f ≤ i ∧ i ≤ e ∧ e < h.length ∧ ((ev h i).1 = 1 ↔ i = f) ∧ (4 ≤ (ev h i).1 ↔ i = e) ∧ endL h (ev h i).2.1 h.length = some e := by
  obtain ⟨f, e, h1, h2, h3, h4, h5, h6, h7⟩ := wf_life hw hi
  exact ⟨f, e, by unfold findL; rw [h1, h2], h3, h4, h5, h6, h7, h2⟩
end
theorem verOf_some {h : List Ev} {key : List UInt8} {i k : Nat} (hv : verOf h key i = some k) : (ev h i).1 = 4 ∧ endL h (ev h i).2.1 h.length = some i ∧ k < i ∧ (ev h k).1 = 3 ∧ (ev h k).2.1 = (ev h i).2.1 ∧ (ev h k).2.2.1 = key ∧ ∀ j, k < j → j < i → ¬ ((ev h j).1 = 3 ∧ (ev h j).2.1 = (ev h i).2.1 ∧ (ev h j).2.2.1 = key) := by
  unfold verOf at hv
  by_cases hc : (ev h i).1 = 4 ∧ endL h (ev h i).2.1 h.length = some i
  · rw [if_pos hc] at hv
    obtain ⟨a, b, c⟩ := (lastN_some _ _ _ _ _).1 hv
    exact ⟨hc.1, hc.2, a, b.1, b.2.1, b.2.2, c⟩
  · rw [if_neg hc] at hv; cases hv
/-- The ends that versions come from, in the order of the versions. -/
def srcL (h : List Ev) (key : List UInt8) : List Nat := (List.range h.length).filter fun i => (verOf h key i).isSome
theorem filterMap_filter {α β : Type} (f : α → Option β) (d : β) : ∀ l : List α, l.filterMap f = (l.filter fun i => (f i).isSome).map fun i => (f i).getD d
  | [] => rfl
  | x :: l => by
    cases hx : f x with
    | none => rw [List.filterMap_cons_none hx, List.filter_cons_of_neg (by simp [hx]), filterMap_filter f d l]
    | some y => rw [List.filterMap_cons_some hx, List.filter_cons_of_pos (by simp [hx]), List.map_cons, hx, filterMap_filter f d l]; rfl
theorem vers_src (h : List Ev) (key : List UInt8) : versL h key = (srcL h key).map fun i => (verOf h key i).getD 0 := filterMap_filter _ _ _
theorem src_len (h : List Ev) (key : List UInt8) : (srcL h key).length = (versL h key).length := by rw [vers_src, List.length_map]
theorem src_sorted (h : List Ev) (key : List UInt8) : (srcL h key).Pairwise (· < ·) := List.Pairwise.filter _ List.pairwise_lt_range
theorem src_at (h : List Ev) (key : List UInt8) (j : Nat) (hj : j < (versL h key).length) : (srcL h key)[j]'(by rw [src_len]; exact hj) < h.length ∧ verOf h key ((srcL h key)[j]'(by rw [src_len]; exact hj)) = some (versL h key)[j] := by
  have hm := List.getElem_mem (l := srcL h key) (by rw [src_len]; exact hj : j < (srcL h key).length)
  unfold srcL at hm
  rw [List.mem_filter, List.mem_range] at hm
  refine ⟨hm.1, ?_⟩
  have e : (versL h key)[j] = (verOf h key ((srcL h key)[j]'(by rw [src_len]; exact hj))).getD 0 := by simp only [vers_src, List.getElem_map]
  rw [e]
  obtain ⟨y, hy⟩ := Option.isSome_iff_exists.1 hm.2
  have hy' : verOf h key ((srcL h key)[j]'(by rw [src_len]; exact hj)) = some y := hy
  rw [hy']; rfl
theorem vers_mem (h : List Ev) (key : List UInt8) (i k : Nat) (hi : i < h.length) (hv : verOf h key i = some k) : k ∈ versL h key := List.mem_filterMap.2 ⟨i, List.mem_range.2 hi, hv⟩
/-- A key's versions are writes of it by committed transactions, whose ends are the sources. -/
theorem vers_at {h : List Ev} (hw : WF h) (key : List UInt8) (j : Nat) (hj : j < (versL h key).length) : ∃ f, (versL h key)[j] < h.length ∧ (ev h (versL h key)[j]).1 = 3 ∧ (ev h (versL h key)[j]).2.2.1 = key ∧ findL h (ev h (versL h key)[j]).2.1 = some ((ev h (versL h key)[j]).2.1, f, (srcL h key)[j]'(by rw [src_len]; exact hj), true) := by
  obtain ⟨s1, s2⟩ := src_at h key j hj
  obtain ⟨a, b, c, d, e, f, _⟩ := verOf_some s2
  obtain ⟨f', e', g1, g2, g3, g4, g5, g6, g7⟩ := wf_find hw (show (versL h key)[j] < h.length by omega)
  refine ⟨f', by omega, d, f, ?_⟩
  rw [e] at g7
  rw [g7] at b
  cases b
  rw [g1, a]; rfl
/-- Each committed transaction that wrote the key has a version, no elder one. -/
theorem vers_has {h : List Ev} (hw : WF h) (key : List UInt8) (i : Nat) (hi : i < h.length) (h3 : (ev h i).1 = 3) (hk : (ev h i).2.2.1 = key) (f e : Nat) (hf : findL h (ev h i).2.1 = some ((ev h i).2.1, f, e, true)) : ∃ k, k ∈ versL h key ∧ (ev h k).2.1 = (ev h i).2.1 ∧ i ≤ k := by
  obtain ⟨f', e', g1, g2, g3, g4, g5, g6, g7⟩ := wf_find hw hi
  rw [hf] at g1
  simp only [Option.some.injEq, Prod.mk.injEq, true_and] at g1
  obtain ⟨rfl, rfl, h4⟩ := g1
  have h4' : (ev h e).1 = 4 := of_decide_eq_true h4.symm
  have hie : i ≠ e := fun he => by rw [he] at h3; rw [h3] at h4'; cases h4'
  have et := (endL_some _ _ _ _).1 g7
  cases hl : lastN h (ev h i).2.1 key e with
  | none => exact absurd ⟨h3, rfl, hk⟩ ((lastN_none _ _ _ _).1 hl i (by omega))
  | some k =>
    obtain ⟨l1, l2, l3⟩ := (lastN_some _ _ _ _ _).1 hl
    refine ⟨k, vers_mem h key e k g4 ?_, l2.2.1, Nat.le_of_not_lt fun hh => l3 i hh (by omega) ⟨h3, rfl, hk⟩⟩
    unfold verOf
    rw [et.2.1.1, if_pos ⟨h4', g7⟩]
    exact hl
end Go.Proofs.Ytpfpkpaodlmlaaa
namespace Go.Proofs.Ytpfpkpaodlmlaaa
set_option maxRecDepth 100000
set_option linter.unusedVariables false
theorem fstL_congr {h k : List Ev} {n : Nat} (he : ∀ j, j < n → ev h j = ev k j) (t : Int) : fstL h t n = fstL k t n := fi_congr fun i hi => by unfold ofTxn; rw [he i hi]
theorem endL_congr {h k : List Ev} {n : Nat} (he : ∀ j, j < n → ev h j = ev k j) (t : Int) : endL h t n = endL k t n := fi_congr fun i hi => by unfold isEnd; rw [he i hi]
/-- What is wrong with an event that is no read hangs on those ahead alone. -/
theorem formStep_congr {h k : List Ev} {i : Nat} (he : ∀ j, j ≤ i → ev h j = ev k j) (h2 : (ev h i).1 ≠ 2) : formStep h i = formStep k i := by
  have hi := he i (Nat.le_refl _)
  unfold formStep
  rw [← hi, fstL_congr (fun j hj => he j (by omega)), endL_congr (fun j hj => he j (by omega)), show fi (sameVal h (ev h i).2.2.2) i = fi (sameVal k (ev h i).2.2.2) i from fi_congr fun j hj => by unfold sameVal; rw [he j (by omega)]]
  rw [if_neg (c := (ev h i).1 = 2 ∧ (ev h i).2.2.2 ≠ [] ∧ writerL h (ev h i).2.2.1 (ev h i).2.2.2 = none) (fun hh => h2 hh.1), if_neg (c := (ev h i).1 = 2 ∧ (ev h i).2.2.2 ≠ [] ∧ writerL k (ev h i).2.2.1 (ev h i).2.2.2 = none) (fun hh => h2 hh.1)]
/-- With a transaction behind that only begins and ends. -/
theorem wf_grow {h : List Ev} (hw : WF h) (t k : Int) (ht : 1 ≤ t ∧ t ≤ 32) (hk : k = 4 ∨ k = 5) (hn : findL h t = none) (hl : h.length ≤ 254) : WF (h ++ [(1, t, [], []), (k, t, [], [])]) ∧ findL (h ++ [(1, t, [], []), (k, t, [], [])]) t = some (t, h.length, h.length + 1, decide (k = 4)) := by
  have hnone : ∀ j, j < h.length → (ev h j).2.1 ≠ t := by
    unfold findL at hn
    cases hf : fstL h t h.length with
    | none => exact (fstL_none _ _ _).1 hf
    | some f =>
      rw [hf] at hn
      simp only at hn
      cases he : endL h t h.length with
      | none => rw [he] at hn; cases hn
      | some e => rw [he] at hn; cases hn
  have hL : ∀ j, j < h.length → ev (h ++ [(1, t, [], []), (k, t, [], [])]) j = ev h j := fun j hj => ev_left _ _ _ hj
  have h0 : ev (h ++ [(1, t, [], []), (k, t, [], [])]) h.length = (1, t, [], []) := by have := ev_right h [(1, t, [], []), (k, t, [], [])] 0 (by simp); exact this
  have h1 : ev (h ++ [(1, t, [], []), (k, t, [], [])]) (h.length + 1) = (k, t, [], []) := by have := ev_right h [(1, t, [], []), (k, t, [], [])] 1 (by simp); exact this
  generalize hg : h ++ [(1, t, [], []), (k, t, [], [])] = g at *
  have hlen : g.length = h.length + 2 := by rw [← hg]; simp
  have hf1 : fstL g t g.length = some h.length := by
    rw [fstL_some]
    exact ⟨by omega, by rw [h0], fun j hj => by rw [hL j hj]; exact hnone j hj⟩
  have he1 : endL g t g.length = some (h.length + 1) := by
    rw [endL_some]
    refine ⟨by omega, by rw [h1]; exact ⟨rfl, hk⟩, fun j hj hb => ?_⟩
    rcases Nat.lt_or_ge j h.length with hjn | hjn
    · rw [hL j hjn] at hb; exact hnone j hjn hb.1
    · rw [show j = h.length by omega, h0] at hb
      rcases hb.2 with hb | hb <;> cases hb
  refine ⟨⟨by omega, fun i hi => ?_, fun i hi => ?_⟩, ?_⟩
  · rcases Nat.lt_or_ge i h.length with hin | hin
    · have hz := (formStep_zero h i).1 (hw.2.1 i hin)
      rw [formStep_zero, hL i hin]
      have hc : ∀ j, j < i → ev g j = ev h j := fun j hj => hL j (by omega)
      refine ⟨hz.1, fun e1 => ?_, fun e1 => ?_⟩
      · rw [fstL_congr hc]; exact hz.2.1 e1
      · obtain ⟨z1, z2, z3, z4⟩ := hz.2.2 e1
        refine ⟨by rw [fstL_congr hc]; exact z1, by rw [endL_congr hc]; exact z2, fun e3 => ?_, fun e2 ev' => ?_⟩
        · rw [show fi (sameVal g (ev h i).2.2.2) i = fi (sameVal h (ev h i).2.2.2) i from fi_congr fun j hj => by unfold sameVal; rw [hc j hj]]
          exact z3 e3
        · intro hwn
          cases hwr : writerL h (ev h i).2.2.1 (ev h i).2.2.2 with
          | none => exact z4 e2 ev' hwr
          | some j =>
            obtain ⟨w1, w2, _⟩ := (writerL_some _ _ _ _).1 hwr
            exact (writerL_none _ _ _).1 hwn j (by omega) (by rw [hL j w1]; exact w2)
    · rcases Nat.lt_or_ge i (h.length + 1) with hi2 | hi2
      · obtain rfl : i = h.length := by omega
        rw [formStep_zero, h0]
        refine ⟨⟨⟨by show (1 : Int) ≤ 1; decide, by show (1 : Int) ≤ 5; decide, ht.1, ht.2⟩, ?_⟩, fun _ => ?_, fun e => absurd rfl e⟩
        · rw [if_neg (show ¬ keyedE 1 by unfold keyedE; decide)]; exact ⟨rfl, rfl⟩
        · rw [fstL_none]; intro j hj; rw [hL j hj]; exact hnone j hj
      · obtain rfl : i = h.length + 1 := by omega
        rw [formStep_zero, h1]
        have hk' : ¬ keyedE k := by unfold keyedE; omega
        refine ⟨⟨⟨by show 1 ≤ k; omega, by show k ≤ 5; omega, ht.1, ht.2⟩, ?_⟩, fun e => ?_, fun e => ⟨?_, ?_, fun e3 => ?_, fun e2 => ?_⟩⟩
        · rw [if_neg hk']; exact ⟨rfl, rfl⟩
        · exfalso; have : k = 1 := e; omega
        · rw [show fstL g t (h.length + 1) = some h.length by rw [fstL_some]; exact ⟨by omega, by rw [h0], fun j hj => by rw [hL j hj]; exact hnone j hj⟩]
          simp
        · rw [endL_none]
          intro j hj hb
          rcases Nat.lt_or_ge j h.length with hjn | hjn
          · rw [hL j hjn] at hb; exact hnone j hjn hb.1
          · rw [show j = h.length by omega, h0] at hb
            rcases hb.2 with hb | hb <;> cases hb
        · exfalso; have : k = 3 := e3; omega
        · exfalso; have : k = 2 := e2; omega
  · rcases Nat.lt_or_ge i h.length with hin | hin
    · rw [hL i hin]
      intro hnn
      cases he : endL h (ev h i).2.1 h.length with
      | none => exact hw.2.2 i hin he
      | some e =>
        obtain ⟨e1, e2, _⟩ := (endL_some _ _ _ _).1 he
        exact (endL_none _ _ _).1 hnn e (by omega) (by rw [hL e e1]; exact e2)
    · have ht' : (ev g i).2.1 = t := by
        rcases Nat.lt_or_ge i (h.length + 1) with hi2 | hi2
        · rw [show i = h.length by omega, h0]
        · rw [show i = h.length + 1 by omega, h1]
      rw [ht', he1]; simp
  · unfold findL
    rw [hf1, he1]
    simp only [h1]
/-- Of a history without reads: what is wrong with a beginning. -/
theorem formed_cut (k : List Ev) (n : Nat) (hr : ∀ i, i < k.length → (ev k i).1 ≠ 2) (hl : k.length ≤ 256) (hn : n ≤ k.length) :
    ((formedL k).1 < n ∧ (formedL k).2 ≠ 0 → formedL (k.take n) = formedL k) ∧ (¬ ((formedL k).1 < n ∧ (formedL k).2 ≠ 0) → (formedL (k.take n)).1 = n ∧ ((formedL (k.take n)).2 = 0 ∨ (formedL (k.take n)).2 = 9)) := by
  have hT : (k.take n).length = n := by rw [List.length_take]; omega
  have hE : ∀ j, j < n → ev (k.take n) j = ev k j := fun j hj => ev_take k n j hj hn
  have hS : ∀ i, i < n → formStep (k.take n) i = formStep k i := fun i hi => formStep_congr (fun j hj => hE j (by omega)) (by rw [hE i hi]; exact hr i (by omega))
  have hW : fi (wrongAt (k.take n)) n = fi (wrongAt k) n := fi_congr fun i hi => by unfold wrongAt; rw [hS i hi]
  have e1 : formedL (k.take n) = match fi (wrongAt k) n with | some i => (i, formStep (k.take n) i) | none => if fi (openAt (k.take n)) n = none then (n, 0) else (n, 9) := by
    unfold formedL
    rw [hT, if_neg (by omega), hW]
    (try rfl)
  have e2 : formedL k = match fi (wrongAt k) k.length with | some i => (i, formStep k i) | none => if fi (openAt k) k.length = none then (k.length, 0) else (k.length, 9) := by
    unfold formedL
    rw [if_neg (by omega)]
    (try rfl)
  cases hc : fi (wrongAt k) n with
  | some i =>
    have hi := (fi_some _ _ _).1 hc
    have hc2 : fi (wrongAt k) k.length = some i := (fi_some _ _ _).2 ⟨by omega, hi.2⟩
    rw [hc] at e1
    rw [hc2] at e2
    simp only at e1 e2
    rw [hS i hi.1] at e1
    rw [e1, e2]
    refine ⟨fun _ => rfl, fun hh => absurd ⟨hi.1, of_decide_eq_true hi.2.1⟩ hh⟩
  | none =>
    have hno := (fi_none _ _).1 hc
    rw [hc] at e1
    simp only at e1
    refine ⟨fun hh => ?_, fun _ => ?_⟩
    · exfalso
      cases hc2 : fi (wrongAt k) k.length with
      | some i =>
        rw [hc2] at e2
        simp only at e2
        rw [e2] at hh
        have hi := (fi_some _ _ _).1 hc2
        have := hno i hh.1
        rw [hi.2.1] at this
        cases this
      | none =>
        rw [hc2] at e2
        simp only at e2
        by_cases ho : fi (openAt k) k.length = none
        · rw [if_pos ho] at e2; rw [e2] at hh; exact hh.2 rfl
        · rw [if_neg ho] at e2; rw [e2] at hh; have : k.length < n := hh.1; omega
    · rw [e1]
      by_cases ho : fi (openAt (k.take n)) n = none
      · rw [if_pos ho]; exact ⟨rfl, .inl rfl⟩
      · rw [if_neg ho]; exact ⟨rfl, .inr rfl⟩
end Go.Proofs.Ytpfpkpaodlmlaaa
namespace Go.Proofs.Ytpfpkpaodlmlaaa
set_option maxRecDepth 100000
set_option linter.unusedVariables false
/-- Where a transaction was committed. -/
def commL (h : List Ev) (t : Int) : Option Nat :=
  match endL h t h.length with
  | none => none
  | some e => if (ev h e).1 = 4 then some e else none
theorem commL_some (h : List Ev) (t : Int) (e : Nat) : commL h t = some e ↔ endL h t h.length = some e ∧ (ev h e).1 = 4 := by
  unfold commL
  cases he : endL h t h.length with
  | none => simp
  | some e' =>
    simp only
    by_cases h4 : (ev h e').1 = 4
    · rw [if_pos h4]
      constructor
      · intro hh; cases hh; exact ⟨rfl, h4⟩
      · intro hh; cases hh.1; rfl
    · rw [if_neg h4]
      constructor
      · intro hh; cases hh
      · intro hh; cases hh.1; exact absurd hh.2 h4
theorem comm_find (h : List Ev) (t : Int) (e : Nat) (hc : commL h t = some e) : ∃ f, findL h t = some (t, f, e, true) := by
  obtain ⟨h1, h2⟩ := (commL_some h t e).1 hc
  obtain ⟨e1, e2, e3⟩ := (endL_some _ _ _ _).1 h1
  cases hf : fstL h t h.length with
  | none => exact absurd e2.1 ((fstL_none _ _ _).1 hf e e1)
  | some f => exact ⟨f, by unfold findL; rw [hf, h1]; simp only [h2]; rfl⟩
theorem find_comm (h : List Ev) (t : Int) (a f e : Nat) (t' : Int) (hf : findL h t = some (t', f, e, true)) : t' = t ∧ commL h t = some e := by
  unfold findL at hf
  cases h1 : fstL h t h.length with
  | none => rw [h1] at hf; cases hf
  | some f' =>
    rw [h1] at hf
    simp only at hf
    cases h2 : endL h t h.length with
    | none => rw [h2] at hf; simp at hf
    | some e' =>
      rw [h2] at hf
      simp only [Option.some.injEq, Prod.mk.injEq] at hf
      obtain ⟨rfl, rfl, rfl, h4⟩ := hf
      exact ⟨rfl, (commL_some _ _ _).2 ⟨h2, of_decide_eq_true h4⟩⟩
/-- A read that counts. -/
def countsL (h : List Ev) (i : Nat) : Prop := i < h.length ∧ (ev h i).1 = 2 ∧ ∃ e, commL h (ev h i).2.1 = some e ∧ i < e
def countsB (h : List Ev) (i : Nat) : Bool := decide (i < h.length) && decide ((ev h i).1 = 2) && (match commL h (ev h i).2.1 with | some e => decide (i < e) | none => false)
theorem counts_iff (h : List Ev) (i : Nat) : countsB h i = true ↔ countsL h i := by
  unfold countsB countsL
  cases hc : commL h (ev h i).2.1 with
  | none => simp
  | some e => simp [and_assoc]
/-- What is wrong with a read: kind, its place, the place of the write. -/
def atL (h : List Ev) (i : Nat) : Int × Int × Int :=
  if countsB h i = false then (0, 0, 0) else
  match lastN h (ev h i).2.1 (ev h i).2.2.1 i with
  | some k => if (ev h k).2.2.2 = (ev h i).2.2.2 then (0, 0, 0) else (3, (i : Int), (k : Int))
  | none =>
    if (ev h i).2.2.2 = [] then (0, 0, 0) else
    match writerL h (ev h i).2.2.1 (ev h i).2.2.2 with
    | none => (0, 0, 0)
    | some w =>
      if (ev h w).2.1 = (ev h i).2.1 then (4, (i : Int), (w : Int)) else
      match commL h (ev h w).2.1 with
      | none => (1, (i : Int), (w : Int))
      | some e => if lastN h (ev h w).2.1 (ev h i).2.2.1 (min h.length e) = some w then (0, 0, 0) else (2, (i : Int), oI (lastN h (ev h w).2.1 (ev h i).2.2.1 (min h.length e)))
def outerB (h : List Ev) (i : Nat) : Bool := countsB h i && decide (lastN h (ev h i).2.1 (ev h i).2.2.1 i = none)
def badsL (h : List Ev) : List (Int × Int × Int) := (List.range h.length).filterMap fun i => if (atL h i).1 = 0 then none else some (atL h i)
def clean (h : List Ev) : Prop := ∀ i, i < h.length → (atL h i).1 = 0
theorem bads_nil (h : List Ev) : badsL h = [] ↔ clean h := by
  unfold badsL clean
  rw [List.filterMap_eq_nil_iff]
  constructor
  · intro hh i hi
    have := hh i (List.mem_range.2 hi)
    by_cases h0 : (atL h i).1 = 0
    · exact h0
    · rw [if_neg h0] at this; cases this
  · intro hh i hi
    rw [if_pos (hh i (List.mem_range.1 hi))]
theorem at_zero (h : List Ev) (i : Nat) (h0 : (atL h i).1 = 0) : atL h i = (0, 0, 0) := by
  unfold atL at h0 ⊢
  repeat' split at h0
  all_goals first | (exfalso; revert h0; decide) | skip
  all_goals simp_all
/-- What a clean read is of. -/
theorem clean_own {h : List Ev} (hc : clean h) {i k : Nat} (hi : countsL h i) (hl : lastN h (ev h i).2.1 (ev h i).2.2.1 i = some k) : (ev h k).2.2.2 = (ev h i).2.2.2 := by
  have h0 := hc i hi.1
  unfold atL at h0
  rw [if_neg (by rw [(counts_iff h i).2 hi]; simp), hl] at h0
  simp only at h0
  by_cases he : (ev h k).2.2.2 = (ev h i).2.2.2
  · exact he
  · rw [if_neg he] at h0; revert h0; simp
theorem clean_other {h : List Ev} (hc : clean h) {i w : Nat} (hi : countsL h i) (hl : lastN h (ev h i).2.1 (ev h i).2.2.1 i = none) (hv : (ev h i).2.2.2 ≠ []) (hw : writerL h (ev h i).2.2.1 (ev h i).2.2.2 = some w) : (ev h w).2.1 ≠ (ev h i).2.1 ∧ ∃ e, commL h (ev h w).2.1 = some e ∧ lastN h (ev h w).2.1 (ev h i).2.2.1 e = some w := by
  have h0 := hc i hi.1
  unfold atL at h0
  rw [if_neg (by rw [(counts_iff h i).2 hi]; simp), hl] at h0
  simp only at h0
  rw [if_neg hv, hw] at h0
  simp only at h0
  by_cases ht : (ev h w).2.1 = (ev h i).2.1
  · rw [if_pos ht] at h0; revert h0; simp
  · rw [if_neg ht] at h0
    refine ⟨ht, ?_⟩
    cases hm : commL h (ev h w).2.1 with
    | none => rw [hm] at h0; revert h0; simp
    | some e =>
      rw [hm] at h0
      simp only at h0
      have he := ((endL_some _ _ _ _).1 ((commL_some _ _ _).1 hm).1).1
      rw [Nat.min_eq_right (by omega)] at h0
      by_cases hl' : lastN h (ev h w).2.1 (ev h i).2.2.1 e = some w
      · exact ⟨e, rfl, hl'⟩
      · rw [if_neg hl'] at h0; revert h0; simp
end Go.Proofs.Ytpfpkpaodlmlaaa
namespace Go.Proofs.Ytpfpkpaodlmlaaa
set_option maxRecDepth 100000
set_option linter.unusedVariables false
theorem fin_prefix {n : Nat} {pre : List (Fin n)} {x : Fin n} (h : pre ++ [x] <+: List.finRange n) : pre <+: List.finRange n ∧ x.val = pre.length ∧ pre.length < n := by
  have hl := h.length_le
  rw [List.length_append, List.length_finRange] at hl
  have h1 : pre <+: List.finRange n := (List.prefix_append _ _).trans h
  refine ⟨h1, ?_, by simp at hl; omega⟩
  have h2 := List.IsPrefix.getElem h (i := pre.length) (by simp)
  rw [List.getElem_append_right (Nat.le_refl _)] at h2
  simp at h2
  rw [h2]
theorem fin_take {n k : Nat} (hk : k < n) : (List.finRange n).take (k + 1) = (List.finRange n).take k ++ [⟨k, hk⟩] := by
  rw [List.take_succ_eq_append_getElem (by rw [List.length_finRange]; exact hk), List.getElem_finRange]
  rfl
end Go.Proofs.Ytpfpkpaodlmlaaa
namespace Go.Proofs.Ytpfpkpaodlmlaaa
set_option maxRecDepth 100000
set_option linter.unusedVariables false
/-- Less, by bytes. -/
def lessB : List UInt8 → List UInt8 → Bool
  | [], [] => false
  | [], _ :: _ => true
  | _ :: _, [] => false
  | a :: l, b :: m => if a < b then true else if a = b then lessB l m else false
def insK (k : List UInt8) : List (List UInt8) → List (List UInt8)
  | [] => [k]
  | x :: l => if lessB x k = true then x :: insK k l else if x = k then x :: l else k :: x :: l
def keysF : List (List UInt8) → List Ev → List (List UInt8)
  | acc, [] => acc
  | acc, x :: l => keysF (if keyedE x.1 then insK x.2.2.1 acc else acc) l
def keysL (h : List Ev) : List (List UInt8) := keysF [] h
theorem insK_mem (k : List UInt8) : ∀ (l : List (List UInt8)) (y : List UInt8), y ∈ insK k l ↔ y = k ∨ y ∈ l
  | [], y => by rw [insK]; simp
  | x :: l, y => by
    rw [insK]
    by_cases h1 : lessB x k = true
    · rw [if_pos h1, List.mem_cons, insK_mem k l y, List.mem_cons]
      constructor
      · rintro (h | h | h)
        · exact .inr (.inl h)
        · exact .inl h
        · exact .inr (.inr h)
      · rintro (h | h | h)
        · exact .inr (.inl h)
        · exact .inl h
        · exact .inr (.inr h)
    · rw [if_neg h1]
      by_cases h2 : x = k
      · rw [if_pos h2, List.mem_cons]
        constructor
        · intro h; exact .inr h
        · rintro (h | h)
          · exact .inl (by rw [h, h2])
          · exact h
      · rw [if_neg h2, List.mem_cons]
theorem keysF_mem (y : List UInt8) : ∀ (l : List Ev) (acc : List (List UInt8)), y ∈ keysF acc l ↔ y ∈ acc ∨ ∃ x ∈ l, keyedE x.1 ∧ x.2.2.1 = y
  | [], acc => by rw [keysF]; simp
  | x :: l, acc => by
    rw [keysF, keysF_mem y l]
    by_cases hk : keyedE x.1
    · rw [if_pos hk, insK_mem]
      constructor
      · rintro ((h | h) | ⟨z, hz, h1, h2⟩)
        · exact .inr ⟨x, List.mem_cons_self .., hk, h.symm⟩
        · exact .inl h
        · exact .inr ⟨z, List.mem_cons_of_mem _ hz, h1, h2⟩
      · rintro (h | ⟨z, hz, h1, h2⟩)
        · exact .inl (.inr h)
        · rcases List.mem_cons.1 hz with rfl | hz
          · exact .inl (.inl h2.symm)
          · exact .inr ⟨z, hz, h1, h2⟩
    · rw [if_neg hk]
      constructor
      · rintro (h | ⟨z, hz, h1, h2⟩)
        · exact .inl h
        · exact .inr ⟨z, List.mem_cons_of_mem _ hz, h1, h2⟩
      · rintro (h | ⟨z, hz, h1, h2⟩)
        · exact .inl h
        · rcases List.mem_cons.1 hz with rfl | hz
          · exact absurd h1 hk
          · exact .inr ⟨z, hz, h1, h2⟩
theorem keys_mem (h : List Ev) (y : List UInt8) : y ∈ keysL h ↔ ∃ i, i < h.length ∧ keyedE (ev h i).1 ∧ (ev h i).2.2.1 = y := by
  unfold keysL
  rw [keysF_mem]
  constructor
  · rintro (h' | ⟨x, hx, h1, h2⟩)
    · cases h'
    · obtain ⟨i, hi, rfl⟩ := List.getElem_of_mem hx
      exact ⟨i, hi, by rw [ev_get _ _ hi]; exact h1, by rw [ev_get _ _ hi]; exact h2⟩
  · rintro ⟨i, hi, h1, h2⟩
    rw [ev_get _ _ hi] at h1 h2
    exact .inr ⟨h[i], List.getElem_mem hi, h1, h2⟩
/-- An edge: kind, from, to, the two places. -/
abbrev Ed := Int × Int × Int × Int × Int
def tx (h : List Ev) (i : Nat) : Int := (ev h i).2.1
def vAt (v : List Nat) (n : Nat) : Nat := v.getD n 0
def wEdge (h : List Ev) (v : List Nat) (n : Nat) : Option Ed := if tx h (vAt v n) = tx h (vAt v (n + 1)) then none else some (1, tx h (vAt v n), tx h (vAt v (n + 1)), (vAt v n : Int), (vAt v (n + 1) : Int))
def wEdges (h : List Ev) (v : List Nat) : List Ed := (List.range (v.length - 1)).filterMap (wEdge h v)
/-- The number of the first version whose value is read. -/
def verAt (h : List Ev) (v : List Nat) (i : Nat) : Option Nat := fi (fun n => decide ((ev h (vAt v n)).2.2.2 = (ev h i).2.2.2)) v.length
def rEdge (h : List Ev) (v : List Nat) (i n : Nat) : List Ed := if tx h (vAt v n) = tx h i then [] else [(2, tx h (vAt v n), tx h i, (vAt v n : Int), (i : Int))]
def oEdge (h : List Ev) (v : List Nat) (i n : Nat) : List Ed := if n < v.length ∧ tx h (vAt v n) ≠ tx h i then [(3, tx h i, tx h (vAt v n), (i : Int), (vAt v n : Int))] else []
def rdEdges (h : List Ev) (v : List Nat) (i : Nat) : List Ed :=
  match verAt h v i with
  | none => if (ev h i).2.2.2 = [] then oEdge h v i 0 else []
  | some n => rEdge h v i n ++ oEdge h v i (n + 1)
def readOf (h : List Ev) (key : List UInt8) (i : Nat) : Bool := decide ((ev h i).2.2.1 = key) && outerB h i
def rEdges (h : List Ev) (key : List UInt8) (v : List Nat) : List Ed := (List.range h.length).flatMap fun i => if readOf h key i = true then rdEdges h v i else []
def keyEdges (h : List Ev) (key : List UInt8) : List Ed := wEdges h (versL h key) ++ rEdges h key (versL h key)
def edgesL (h : List Ev) : List Ed := (keysL h).flatMap (keyEdges h)
/-- Whether an edge holds. -/
def holdsL (h : List Ev) (e : Ed) : Prop :=
  ∃ a b i j : Nat, commL h e.2.1 = some a ∧ commL h e.2.2.1 = some b ∧ e.2.1 ≠ e.2.2.1 ∧ e.2.2.2.1 = (i : Int) ∧ e.2.2.2.2 = (j : Int) ∧ i < h.length ∧ j < h.length ∧ (ev h i).2.2.1 = (ev h j).2.2.1 ∧ tx h i = e.2.1 ∧ tx h j = e.2.2.1 ∧
  ((e.1 = 1 ∧ (ev h i).1 = 3 ∧ (ev h j).1 = 3 ∧ a < b) ∨ (e.1 = 2 ∧ (ev h i).1 = 3 ∧ (ev h j).1 = 2 ∧ (ev h i).2.2.2 = (ev h j).2.2.2) ∨
   (e.1 = 3 ∧ (ev h i).1 = 2 ∧ (ev h j).1 = 3 ∧ ((ev h i).2.2.2 = [] ∨ ∃ w c, writerL h (ev h i).2.2.1 (ev h i).2.2.2 = some w ∧ tx h w ≠ e.2.2.1 ∧ commL h (tx h w) = some c ∧ c < b)))
/-- A way of edges. -/
def wayI (l : List Ed) (a : Int) : Nat → Int → Prop
  | 0, b => b = a
  | n + 1, b => ∃ e, e ∈ l ∧ wayI l a n e.2.1 ∧ b = e.2.2.1
def Way (l : List Ed) (a b : Int) : Prop := ∃ n, wayI l a n b
theorem Way.here {l : List Ed} {a : Int} : Way l a a := ⟨0, rfl⟩
theorem Way.go {l : List Ed} {a : Int} (e : Ed) (he : e ∈ l) (h : Way l a e.2.1) : Way l a e.2.2.1 := by
  obtain ⟨n, hn⟩ := h
  exact ⟨n + 1, e, he, hn, rfl⟩
theorem Way.elim {l : List Ed} {a : Int} {motive : (b : Int) → Way l a b → Prop} (here : motive a Way.here) (go : ∀ (e : Ed) (he : e ∈ l) (h : Way l a e.2.1), motive e.2.1 h → motive e.2.2.1 (Way.go e he h)) {b : Int} (h : Way l a b) : motive b h := by
  obtain ⟨n, hn⟩ := h
  induction n generalizing b with
  | zero => have e : b = a := hn
            subst e; exact here
  | succ n ih =>
    obtain ⟨e, he, h1, rfl⟩ := hn
    exact go e he ⟨n, h1⟩ (ih h1)
theorem Way.trans {l : List Ed} {a b c : Int} (h : Way l a b) (k : Way l b c) : Way l a c := by
  induction k using Way.elim with
  | here => exact h
  | go e he _ ih => exact .go e he ih
end Go.Proofs.Ytpfpkpaodlmlaaa
namespace Go.Proofs.Ytpfpkpaodlmlaaa
set_option maxRecDepth 100000
set_option linter.unusedVariables false
def srcAt (h : List Ev) (key : List UInt8) (n : Nat) : Nat := (srcL h key).getD n 0
theorem vAt_get (v : List Nat) (n : Nat) (hn : n < v.length) : vAt v n = v[n] := by unfold vAt; rw [List.getD_eq_getElem?_getD, List.getElem?_eq_getElem hn]; rfl
theorem srcAt_get (h : List Ev) (key : List UInt8) (n : Nat) (hn : n < (versL h key).length) : srcAt h key n = (srcL h key)[n]'(by rw [src_len]; exact hn) := by
  unfold srcAt; rw [List.getD_eq_getElem?_getD, List.getElem?_eq_getElem (by rw [src_len]; exact hn)]; rfl
theorem ver_facts (h : List Ev) (key : List UInt8) (n : Nat) (hn : n < (versL h key).length) : srcAt h key n < h.length ∧ commL h (tx h (vAt (versL h key) n)) = some (srcAt h key n) ∧ vAt (versL h key) n < srcAt h key n ∧ (ev h (vAt (versL h key) n)).1 = 3 ∧ (ev h (vAt (versL h key) n)).2.2.1 = key := by
  rw [vAt_get _ _ hn, srcAt_get _ _ _ hn]
  obtain ⟨s1, s2⟩ := src_at h key n hn
  obtain ⟨a, b, c, d, e, f, _⟩ := verOf_some s2
  exact ⟨s1, (commL_some _ _ _).2 ⟨by unfold tx; rw [e]; exact b, a⟩, c, d, f⟩
theorem src_lt (h : List Ev) (key : List UInt8) (n m : Nat) (hnm : n < m) (hm : m < (versL h key).length) : srcAt h key n < srcAt h key m := by
  rw [srcAt_get _ _ _ (by omega), srcAt_get _ _ _ hm]
  exact List.pairwise_iff_getElem.1 (src_sorted h key) n m _ _ hnm
theorem src_mono (h : List Ev) (key : List UInt8) (n m : Nat) (hn : n < (versL h key).length) (hm : m < (versL h key).length) (hlt : srcAt h key n < srcAt h key m) : n < m := by
  rcases Nat.lt_trichotomy n m with hh | hh | hh
  · exact hh
  · rw [hh] at hlt; omega
  · have := src_lt h key m n hh hn; omega
theorem tx_ne (h : List Ev) (key : List UInt8) (n m : Nat) (hnm : n < m) (hm : m < (versL h key).length) : tx h (vAt (versL h key) n) ≠ tx h (vAt (versL h key) m) := by
  intro he
  have h1 := (ver_facts h key n (by omega)).2.1
  have h2 := (ver_facts h key m hm).2.1
  rw [he, h2] at h1
  have := src_lt h key n m hnm hm
  have := Option.some.inj h1
  omega
/-- The version of a committed transaction. -/
theorem ver_index (h : List Ev) (key : List UInt8) (t : Int) (e w : Nat) (hc : commL h t = some e) (hl : lastN h t key e = some w) : ∃ n, n < (versL h key).length ∧ vAt (versL h key) n = w ∧ srcAt h key n = e := by
  obtain ⟨c1, c2⟩ := (commL_some _ _ _).1 hc
  obtain ⟨q1, q2, q3⟩ := (endL_some _ _ _ _).1 c1
  have hv : verOf h key e = some w := by
    unfold verOf
    rw [q2.1, if_pos ⟨c2, c1⟩]; exact hl
  have hm : e ∈ srcL h key := by
    unfold srcL
    rw [List.mem_filter]
    exact ⟨List.mem_range.2 q1, by rw [hv]; rfl⟩
  obtain ⟨n, hn, he⟩ := List.getElem_of_mem hm
  have hn' : n < (versL h key).length := by rw [← src_len]; exact hn
  refine ⟨n, hn', ?_, by rw [srcAt_get _ _ _ hn']; exact he⟩
  have := (src_at h key n hn').2
  rw [he, hv] at this
  rw [vAt_get _ _ hn']
  exact (Option.some.inj this).symm
theorem outer_iff (h : List Ev) (i : Nat) : outerB h i = true ↔ countsL h i ∧ lastN h (ev h i).2.1 (ev h i).2.2.1 i = none := by
  unfold outerB
  rw [Bool.and_eq_true, counts_iff, decide_eq_true_eq]
/-- What edges there are. -/
theorem edge_cases (h : List Ev) (e : Ed) (he : e ∈ edgesL h) : ∃ key, (∃ n, n + 1 < (versL h key).length ∧ e = (1, tx h (vAt (versL h key) n), tx h (vAt (versL h key) (n + 1)), (vAt (versL h key) n : Int), (vAt (versL h key) (n + 1) : Int))) ∨
    (∃ i, countsL h i ∧ lastN h (ev h i).2.1 (ev h i).2.2.1 i = none ∧ (ev h i).2.2.1 = key ∧
      ((∃ n, verAt h (versL h key) i = some n ∧ tx h (vAt (versL h key) n) ≠ tx h i ∧ e = (2, tx h (vAt (versL h key) n), tx h i, (vAt (versL h key) n : Int), (i : Int))) ∨
       (∃ n, ((verAt h (versL h key) i = none ∧ (ev h i).2.2.2 = [] ∧ n = 0) ∨ ∃ m, verAt h (versL h key) i = some m ∧ n = m + 1) ∧ n < (versL h key).length ∧ tx h (vAt (versL h key) n) ≠ tx h i ∧ e = (3, tx h i, tx h (vAt (versL h key) n), (i : Int), (vAt (versL h key) n : Int))))) := by
  unfold edgesL at he
  obtain ⟨key, hk, he⟩ := List.mem_flatMap.1 he
  refine ⟨key, ?_⟩
  unfold keyEdges at he
  rcases List.mem_append.1 he with he | he
  · left
    unfold wEdges at he
    obtain ⟨n, hn, he⟩ := List.mem_filterMap.1 he
    rw [List.mem_range] at hn
    unfold wEdge at he
    by_cases ht : tx h (vAt (versL h key) n) = tx h (vAt (versL h key) (n + 1))
    · rw [if_pos ht] at he; cases he
    · rw [if_neg ht] at he; exact ⟨n, by omega, (Option.some.inj he).symm⟩
  · right
    unfold rEdges at he
    obtain ⟨i, hi, he⟩ := List.mem_flatMap.1 he
    by_cases hr : readOf h key i = true
    · rw [if_pos hr] at he
      unfold readOf at hr
      rw [Bool.and_eq_true, decide_eq_true_eq, outer_iff] at hr
      obtain ⟨hkey, hc, hl⟩ := hr
      refine ⟨i, hc, hl, hkey, ?_⟩
      have hO : ∀ n, e ∈ oEdge h (versL h key) i n → n < (versL h key).length ∧ tx h (vAt (versL h key) n) ≠ tx h i ∧ e = (3, tx h i, tx h (vAt (versL h key) n), (i : Int), (vAt (versL h key) n : Int)) := fun n hn => by
        unfold oEdge at hn
        by_cases hh : n < (versL h key).length ∧ tx h (vAt (versL h key) n) ≠ tx h i
        · rw [if_pos hh, List.mem_singleton] at hn; exact ⟨hh.1, hh.2, hn⟩
        · rw [if_neg hh] at hn; cases hn
      unfold rdEdges at he
      cases hv : verAt h (versL h key) i with
      | none =>
        rw [hv] at he
        simp only at he
        by_cases hev : (ev h i).2.2.2 = []
        · rw [if_pos hev] at he
          exact .inr ⟨0, .inl ⟨rfl, hev, rfl⟩, hO 0 he⟩
        · rw [if_neg hev] at he; cases he
      | some n =>
        rw [hv] at he
        simp only at he
        rcases List.mem_append.1 he with he | he
        · unfold rEdge at he
          by_cases ht : tx h (vAt (versL h key) n) = tx h i
          · rw [if_pos ht] at he; cases he
          · rw [if_neg ht, List.mem_singleton] at he
            exact .inl ⟨n, rfl, ht, he⟩
        · exact .inr ⟨n + 1, .inr ⟨n, rfl, rfl⟩, hO _ he⟩
    · rw [if_neg hr] at he; cases he
theorem w_edge (h : List Ev) (key : List UInt8) (hk : key ∈ keysL h) (n : Nat) (hn : n + 1 < (versL h key).length) : (1, tx h (vAt (versL h key) n), tx h (vAt (versL h key) (n + 1)), (vAt (versL h key) n : Int), (vAt (versL h key) (n + 1) : Int)) ∈ edgesL h := by
  refine List.mem_flatMap.2 ⟨key, hk, List.mem_append.2 (.inl (List.mem_filterMap.2 ⟨n, List.mem_range.2 (by omega), ?_⟩))⟩
  unfold wEdge
  rw [if_neg (tx_ne h key n (n + 1) (by omega) hn)]
theorem ver_key (h : List Ev) (key : List UInt8) (n : Nat) (hn : n < (versL h key).length) : key ∈ keysL h := by
  obtain ⟨a, b, c, d, e⟩ := ver_facts h key n hn
  exact (keys_mem h key).2 ⟨vAt (versL h key) n, by omega, .inr d, e⟩
/-- From a version to a later one. -/
theorem v_way (h : List Ev) (key : List UInt8) (n : Nat) : ∀ m, n ≤ m → m < (versL h key).length → Way (edgesL h) (tx h (vAt (versL h key) n)) (tx h (vAt (versL h key) m))
  | 0, hnm, hm => by rw [show n = 0 by omega]; exact .here
  | m + 1, hnm, hm => by
    rcases Nat.lt_or_ge m n with hh | hh
    · rw [show n = m + 1 by omega]; exact .here
    · exact .go _ (w_edge h key (ver_key h key _ hm) m hm) (v_way h key n m hh (by omega))
theorem r_edges (h : List Ev) (i : Nat) (hc : countsL h i) (hl : lastN h (ev h i).2.1 (ev h i).2.2.1 i = none) (e : Ed) (he : e ∈ rdEdges h (versL h (ev h i).2.2.1) i) : e ∈ edgesL h := by
  refine List.mem_flatMap.2 ⟨(ev h i).2.2.1, (keys_mem h _).2 ⟨i, hc.1, .inl hc.2.1, rfl⟩, List.mem_append.2 (.inr (List.mem_flatMap.2 ⟨i, List.mem_range.2 hc.1, ?_⟩))⟩
  rw [if_pos]
  · exact he
  · unfold readOf
    rw [Bool.and_eq_true, decide_eq_true_eq, outer_iff]
    exact ⟨rfl, hc, hl⟩
theorem verAt_some (h : List Ev) (v : List Nat) (i n : Nat) : verAt h v i = some n ↔ n < v.length ∧ (ev h (vAt v n)).2.2.2 = (ev h i).2.2.2 ∧ ∀ j, j < n → (ev h (vAt v j)).2.2.2 ≠ (ev h i).2.2.2 := by
  unfold verAt
  rw [fi_some]
  constructor
  · intro ⟨a, b, c⟩; exact ⟨a, of_decide_eq_true b, fun j hj => of_decide_eq_false (c j hj)⟩
  · intro ⟨a, b, c⟩; exact ⟨a, decide_eq_true b, fun j hj => decide_eq_false (c j hj)⟩
theorem verAt_none (h : List Ev) (v : List Nat) (i : Nat) : verAt h v i = none ↔ ∀ j, j < v.length → (ev h (vAt v j)).2.2.2 ≠ (ev h i).2.2.2 := by
  unfold verAt
  rw [fi_none]
  constructor
  · intro hh j hj; exact of_decide_eq_false (hh j hj)
  · intro hh j hj; exact decide_eq_false (hh j hj)
/-- In a well formed history a value tells its write. -/
theorem wr_one {h : List Ev} (hw : WF h) {i j : Nat} (hi : i < h.length) (hj : j < h.length) (h3 : (ev h i).1 = 3) (h3' : (ev h j).1 = 3) (hv : (ev h i).2.2.2 = (ev h j).2.2.2) : i = j := by
  rcases Nat.lt_trichotomy i j with hh | hh | hh
  · exact absurd hv (wf_vals hw hj h3' hh h3)
  · exact hh
  · exact absurd hv.symm (wf_vals hw hi h3 hh h3')
theorem wr_nonempty {h : List Ev} (hw : WF h) {i : Nat} (hi : i < h.length) (h3 : (ev h i).1 = 3) : (ev h i).2.2.2 ≠ [] := by
  have hm := (wf_may hw hi).2
  rw [if_pos (show keyedE (ev h i).1 from Or.inr h3)] at hm
  intro he
  rw [he] at hm
  have := hm.2.2.2
  rw [h3] at this
  simp at this
theorem writer_is {h : List Ev} (hw : WF h) {j : Nat} (hj : j < h.length) (h3 : (ev h j).1 = 3) : writerL h (ev h j).2.2.1 (ev h j).2.2.2 = some j := by
  rw [writerL_some]
  exact ⟨hj, ⟨h3, rfl, rfl⟩, fun k hk hh => wf_vals hw hj h3 hk hh.1 hh.2.2⟩
/-- Each edge is of two committed transactions, and of events of these, of one key. -/
theorem edges_apart (h : List Ev) (e : Ed) (he : e ∈ edgesL h) : ∃ a b i j : Nat, commL h e.2.1 = some a ∧ commL h e.2.2.1 = some b ∧ e.2.1 ≠ e.2.2.1 ∧ e.2.2.2.1 = (i : Int) ∧ e.2.2.2.2 = (j : Int) ∧ i < h.length ∧ j < h.length ∧ (ev h i).2.2.1 = (ev h j).2.2.1 ∧ tx h i = e.2.1 ∧ tx h j = e.2.2.1 := by
  obtain ⟨key, ⟨n, hn, rfl⟩ | ⟨i, hc, hl, hkey, ⟨n, hv, ht, rfl⟩ | ⟨n, _, hn, ht, rfl⟩⟩⟩ := edge_cases h e he
  · obtain ⟨a1, a2, a3, a4, a5⟩ := ver_facts h key n (by omega)
    obtain ⟨b1, b2, b3, b4, b5⟩ := ver_facts h key (n + 1) hn
    exact ⟨_, _, _, _, a2, b2, tx_ne h key n (n + 1) (by omega) hn, rfl, rfl, by omega, by omega, by rw [a5, b5], rfl, rfl⟩
  · obtain ⟨a1, a2, a3, a4, a5⟩ := ver_facts h key n ((verAt_some _ _ _ _).1 hv).1
    obtain ⟨e', c1, c2⟩ := hc.2.2
    exact ⟨_, _, _, _, a2, c1, ht, rfl, rfl, by omega, hc.1, by rw [a5, hkey], rfl, rfl⟩
  · obtain ⟨a1, a2, a3, a4, a5⟩ := ver_facts h key n hn
    obtain ⟨e', c1, c2⟩ := hc.2.2
    exact ⟨_, _, _, _, c1, a2, fun hh => ht hh.symm, rfl, rfl, hc.1, by omega, by rw [a5, hkey], rfl, rfl⟩
/-- In a well formed history in which nothing is tainted each edge holds. -/
theorem edges_hold {h : List Ev} (hw : WF h) (e : Ed) (he : e ∈ edgesL h) : holdsL h e := by
  obtain ⟨key, ⟨n, hn, rfl⟩ | ⟨i, hc, hl, hkey, ⟨n, hv, ht, rfl⟩ | ⟨n, hn0, hn, ht, rfl⟩⟩⟩ := edge_cases h e he
  · obtain ⟨a1, a2, a3, a4, a5⟩ := ver_facts h key n (by omega)
    obtain ⟨b1, b2, b3, b4, b5⟩ := ver_facts h key (n + 1) hn
    exact ⟨_, _, _, _, a2, b2, tx_ne h key n (n + 1) (by omega) hn, rfl, rfl, by omega, by omega, by rw [a5, b5], rfl, rfl, .inl ⟨rfl, a4, b4, src_lt h key n (n + 1) (by omega) hn⟩⟩
  · obtain ⟨v1, v2, v3⟩ := (verAt_some _ _ _ _).1 hv
    obtain ⟨a1, a2, a3, a4, a5⟩ := ver_facts h key n v1
    obtain ⟨e', c1, c2⟩ := hc.2.2
    exact ⟨_, _, _, _, a2, c1, ht, rfl, rfl, by omega, hc.1, by rw [a5, hkey], rfl, rfl, .inr (.inl ⟨rfl, a4, hc.2.1, v2⟩)⟩
  · obtain ⟨a1, a2, a3, a4, a5⟩ := ver_facts h key n hn
    obtain ⟨e', c1, c2⟩ := hc.2.2
    refine ⟨_, _, _, _, c1, a2, fun hh => ht hh.symm, rfl, rfl, hc.1, by omega, by rw [a5, hkey], rfl, rfl, .inr (.inr ⟨rfl, hc.2.1, a4, ?_⟩)⟩
    rcases hn0 with ⟨_, hv, _⟩ | ⟨m, hm, rfl⟩
    · exact .inl hv
    · right
      obtain ⟨v1, v2, v3⟩ := (verAt_some _ _ _ _).1 hm
      obtain ⟨m1, m2, m3, m4, m5⟩ := ver_facts h key m v1
      refine ⟨vAt (versL h key) m, srcAt h key m, ?_, tx_ne h key m (m + 1) (by omega) hn, m2, src_lt h key m (m + 1) (by omega) hn⟩
      have := writer_is hw (by omega) m4
      rw [m5, v2] at this
      rw [hkey]
      exact this
/-- What holds follows from the edges that are told. -/
theorem edges_follow {h : List Ev} (hw : WF h) (hcl : clean h) (e : Ed) (he : holdsL h e) : Way (edgesL h) e.2.1 e.2.2.1 := by
  obtain ⟨a, b, i, j, ca, cb, hne, hI, hJ, hi, hj, hkey, ti, tj, hcase⟩ := he
  have vers : ∀ (t : Int) (c q : Nat), commL h t = some c → q < h.length → (ev h q).1 = 3 → tx h q = t → ∃ n, n < (versL h (ev h q).2.2.1).length ∧ tx h (vAt (versL h (ev h q).2.2.1) n) = t ∧ srcAt h (ev h q).2.2.1 n = c := by
    intro t c q hc hq h3 ht
    obtain ⟨c1, c2⟩ := (commL_some _ _ _).1 hc
    obtain ⟨f', e', g0, g1, g2, g3, g4, g5, g6⟩ := wf_life hw hq
    have ht' : (ev h q).2.1 = t := ht
    rw [ht', c1] at g1
    cases g1
    have hqe : q ≠ c := fun hh => by rw [hh, c2] at h3; cases h3
    cases hl : lastN h t (ev h q).2.2.1 c with
    | none => exact absurd ⟨h3, ht, rfl⟩ ((lastN_none _ _ _ _).1 hl q (by omega))
    | some w =>
      obtain ⟨n, n1, n2, n3⟩ := ver_index h (ev h q).2.2.1 t c w hc hl
      refine ⟨n, n1, ?_, n3⟩
      rw [n2]; exact ((lastN_some _ _ _ _ _).1 hl).2.1.2.1
  have along : ∀ (key : List UInt8) (n m : Nat), n < (versL h key).length → m < (versL h key).length → srcAt h key n < srcAt h key m → Way (edgesL h) (tx h (vAt (versL h key) n)) (tx h (vAt (versL h key) m)) := fun key n m hn hm hlt => v_way h key n m (by have := src_mono h key n m hn hm hlt; omega) hm
  rcases hcase with ⟨_, hi3, hj3, hab⟩ | ⟨_, hi3, hj2, hv⟩ | ⟨_, hi2, hj3, hv⟩
  · obtain ⟨n, n1, n2, n3⟩ := vers e.2.1 a i ca hi hi3 ti
    obtain ⟨m, m1, m2, m3⟩ := vers e.2.2.1 b j cb hj hj3 tj
    rw [← hkey] at m1 m2 m3
    have := along _ n m n1 m1 (by omega)
    rw [n2, m2] at this
    exact this
  · -- a read of what From wrote
    obtain ⟨f', e', g0, g1, g2, g3, g4, g5, g6⟩ := wf_life hw hj
    have tj' : (ev h j).2.1 = e.2.2.1 := tj
    have hjb : j < b := by
      have := ((commL_some _ _ _).1 cb).1
      rw [tj', this] at g1
      cases g1
      have : j ≠ b := fun hh => by have := ((commL_some _ _ _).1 cb).2; rw [← hh, hj2] at this; cases this
      omega
    have hcj : countsL h j := ⟨hj, hj2, b, by rw [tj']; exact cb, hjb⟩
    have hln : lastN h (ev h j).2.1 (ev h j).2.2.1 j = none := by
      cases hl : lastN h (ev h j).2.1 (ev h j).2.2.1 j with
      | none => rfl
      | some k =>
        exfalso
        have hk := clean_own hcl hcj hl
        obtain ⟨l1, l2, _⟩ := (lastN_some _ _ _ _ _).1 hl
        have : k = i := wr_one hw (by omega) hi l2.1 hi3 (by rw [hk, hv])
        apply hne
        rw [← ti, ← tj, ← this]
        exact l2.2.1
    have hwr : writerL h (ev h j).2.2.1 (ev h j).2.2.2 = some i := by
      have := writer_is hw hi hi3
      rw [hkey, hv] at this
      exact this
    have hvne : (ev h j).2.2.2 ≠ [] := by rw [← hv]; exact wr_nonempty hw hi hi3
    obtain ⟨o1, c, o2, o3⟩ := clean_other hcl hcj hln hvne hwr
    obtain ⟨n, n1, n2, n3⟩ := ver_index h (ev h j).2.2.1 (ev h i).2.1 c i o2 o3
    have hva : verAt h (versL h (ev h j).2.2.1) j = some n := by
      rw [verAt_some]
      refine ⟨n1, by rw [n2, hv], fun q hq hh => ?_⟩
      obtain ⟨r1, r2, r3, r4, r5⟩ := ver_facts h (ev h j).2.2.1 q (by omega)
      have : vAt (versL h (ev h j).2.2.1) q = i := wr_one hw (by omega) hi r4 hi3 (by rw [hh, hv])
      exact tx_ne h (ev h j).2.2.1 q n hq n1 (by rw [this, n2])
    have hed := r_edges h j hcj hln (2, tx h i, tx h j, (i : Int), (j : Int)) (by
      unfold rdEdges
      rw [hva]
      refine List.mem_append.2 (.inl ?_)
      unfold rEdge
      rw [n2, if_neg (show ¬ tx h i = tx h j from o1)]
      exact List.mem_singleton.2 rfl)
    have := Way.go (a := tx h i) _ hed .here
    rw [← ti, ← tj]
    exact this
  · -- a read that To wrote over
    obtain ⟨f', e', g0, g1, g2, g3, g4, g5, g6⟩ := wf_life hw hi
    have ti' : (ev h i).2.1 = e.2.1 := ti
    have hia : i < a := by
      have := ((commL_some _ _ _).1 ca).1
      rw [ti', this] at g1
      cases g1
      have : i ≠ a := fun hh => by have := ((commL_some _ _ _).1 ca).2; rw [← hh, hi2] at this; cases this
      omega
    have hci : countsL h i := ⟨hi, hi2, a, by rw [ti']; exact ca, hia⟩
    obtain ⟨m, m1, m2, m3⟩ := vers e.2.2.1 b j cb hj hj3 tj
    rw [← hkey] at m1 m2 m3
    -- over the version n, if To's stands no elder
    have over : ∀ n, n ≤ m → (∀ x : Ed, x ∈ oEdge h (versL h (ev h i).2.2.1) i n → x ∈ rdEdges h (versL h (ev h i).2.2.1) i) → lastN h (ev h i).2.1 (ev h i).2.2.1 i = none → Way (edgesL h) e.2.1 e.2.2.1 := by
      intro n hnm hsub hln
      by_cases ht : tx h (vAt (versL h (ev h i).2.2.1) n) = tx h i
      · have := v_way h (ev h i).2.2.1 n m hnm m1
        rw [ht, ti, m2] at this
        exact this
      · have hed := r_edges h i hci hln (3, tx h i, tx h (vAt (versL h (ev h i).2.2.1) n), (i : Int), (vAt (versL h (ev h i).2.2.1) n : Int)) (hsub _ (by
          unfold oEdge
          rw [if_pos ⟨by omega, ht⟩]
          exact List.mem_singleton.2 rfl))
        have w1 := Way.go (a := tx h i) _ hed .here
        have w2 := v_way h (ev h i).2.2.1 n m hnm m1
        rw [m2] at w2
        have := w1.trans w2
        rw [ti] at this
        exact this
    cases hl : lastN h (ev h i).2.1 (ev h i).2.2.1 i with
    | some k =>
      have hk := clean_own hcl hci hl
      obtain ⟨l1, l2, _⟩ := (lastN_some _ _ _ _ _).1 hl
      rcases hv with hv | ⟨w, c, w1, w2, w3, w4⟩
      · exact absurd (by rw [hk, hv]) (wr_nonempty hw (by omega) l2.1)
      · obtain ⟨p1, p2, _⟩ := (writerL_some _ _ _ _).1 w1
        have hwk : w = k := wr_one hw p1 (by omega) p2.1 l2.1 (by rw [p2.2.2, hk])
        have htw : tx h w = e.2.1 := by rw [hwk]; exact l2.2.1.trans ti
        rw [htw, ca] at w3
        cases w3
        obtain ⟨n, n1, n2, n3⟩ := vers e.2.1 a k ca (by omega) l2.1 (by rw [← hwk]; exact htw)
        rw [l2.2.2] at n1 n2 n3
        have := along _ n m n1 m1 (by omega)
        rw [n2, m2] at this
        exact this
    | none =>
      by_cases hev : (ev h i).2.2.2 = []
      · have hva : verAt h (versL h (ev h i).2.2.1) i = none := by
          rw [verAt_none]
          intro q hq hh
          obtain ⟨r1, r2, r3, r4, r5⟩ := ver_facts h (ev h i).2.2.1 q hq
          exact wr_nonempty hw (by omega) r4 (by rw [hh, hev])
        exact over 0 (by omega) (fun x hx => by unfold rdEdges; rw [hva]; simp only; rw [if_pos hev]; exact hx) hl
      · rcases hv with hv | ⟨w, c, w1, w2, w3, w4⟩
        · exact absurd hv hev
        · obtain ⟨o1, c', o2, o3⟩ := clean_other hcl hci hl hev w1
          have w3' : commL h (ev h w).2.1 = some c := w3
          rw [w3'] at o2
          cases o2
          obtain ⟨p1, p2, _⟩ := (writerL_some _ _ _ _).1 w1
          obtain ⟨n, n1, n2, n3⟩ := ver_index h (ev h i).2.2.1 (ev h w).2.1 c w w3' o3
          have hva : verAt h (versL h (ev h i).2.2.1) i = some n := by
            rw [verAt_some]
            refine ⟨n1, by rw [n2, p2.2.2], fun q hq hh => ?_⟩
            obtain ⟨r1, r2, r3, r4, r5⟩ := ver_facts h (ev h i).2.2.1 q (by omega)
            have : vAt (versL h (ev h i).2.2.1) q = w := wr_one hw (by omega) p1 r4 p2.1 (by rw [hh, p2.2.2])
            exact tx_ne h (ev h i).2.2.1 q n hq n1 (by rw [this, n2])
          have hnm : n < m := src_mono h _ n m n1 m1 (by omega)
          exact over (n + 1) (by omega) (fun x hx => by unfold rdEdges; rw [hva]; exact List.mem_append.2 (.inr hx)) hl
/-- Values and ends of edges. -/
theorem edges_reads {h : List Ev} (hw : WF h) (e : Ed) (he : e ∈ edgesL h) : ∃ a b i j : Nat, commL h e.2.1 = some a ∧ commL h e.2.2.1 = some b ∧ e.2.2.2.1 = (i : Int) ∧ e.2.2.2.2 = (j : Int) ∧ i < h.length ∧ j < h.length ∧ (e.1 = 2 → (ev h i).2.2.2 = (ev h j).2.2.2) ∧ (e.1 = 3 → (ev h i).2.2.2 ≠ (ev h j).2.2.2) ∧ (e.1 = 1 → a < b) := by
  obtain ⟨key, ⟨n, hn, rfl⟩ | ⟨i, hc, hl, hkey, ⟨n, hv, ht, rfl⟩ | ⟨n, hn0, hn, ht, rfl⟩⟩⟩ := edge_cases h e he
  · obtain ⟨a1, a2, a3, a4, a5⟩ := ver_facts h key n (by omega)
    obtain ⟨b1, b2, b3, b4, b5⟩ := ver_facts h key (n + 1) hn
    exact ⟨_, _, _, _, a2, b2, rfl, rfl, by omega, by omega, fun hh => (by cases hh), fun hh => (by cases hh), fun _ => src_lt h key n (n + 1) (by omega) hn⟩
  · obtain ⟨v1, v2, v3⟩ := (verAt_some _ _ _ _).1 hv
    obtain ⟨a1, a2, a3, a4, a5⟩ := ver_facts h key n v1
    obtain ⟨e', c1, c2⟩ := hc.2.2
    exact ⟨_, _, _, _, a2, c1, rfl, rfl, by omega, hc.1, fun _ => v2, fun hh => (by cases hh), fun hh => (by cases hh)⟩
  · obtain ⟨a1, a2, a3, a4, a5⟩ := ver_facts h key n hn
    obtain ⟨e', c1, c2⟩ := hc.2.2
    refine ⟨_, _, _, _, c1, a2, rfl, rfl, hc.1, by omega, fun hh => (by cases hh), fun _ hh => ?_, fun hh => (by cases hh)⟩
    rcases hn0 with ⟨_, hv, _⟩ | ⟨m, hm, rfl⟩
    · exact wr_nonempty hw (by omega) a4 (by rw [← hh, hv])
    · obtain ⟨v1, v2, v3⟩ := (verAt_some _ _ _ _).1 hm
      obtain ⟨m1, m2, m3, m4, m5⟩ := ver_facts h key m v1
      have : vAt (versL h key) m = vAt (versL h key) (m + 1) := wr_one hw (by omega) (by omega) m4 a4 (by rw [v2, hh])
      exact tx_ne h key m (m + 1) (by omega) hn (by rw [this])
end Go.Proofs.Ytpfpkpaodlmlaaa
namespace Go.Proofs.Ytpfpkpaodlmlaaa
set_option maxRecDepth 100000
set_option linter.unusedVariables false
theorem keysF_snoc (x : Ev) : ∀ (l : List Ev) (acc : List (List UInt8)), keysF acc (l ++ [x]) = if keyedE x.1 then insK x.2.2.1 (keysF acc l) else keysF acc l
  | [], acc => by show keysF _ [] = _; rw [keysF]; rfl
  | y :: l, acc => by
    show keysF acc (y :: (l ++ [x])) = _
    rw [keysF, keysF_snoc x l]
    rfl
theorem insK_split (k : List UInt8) : ∀ (K : List (List UInt8)) (q : Nat) (hq : q ≤ K.length) (hl : ∀ j (h : j < q), lessB (K[j]'(by omega)) k = true) (hn : ∀ h : q < K.length, lessB (K[q]'h) k = false),
    insK k K = if ∃ h : q < K.length, K[q]'h = k then K else K.take q ++ k :: K.drop q
  | [], q, hq, hl, hn => by
    obtain rfl : q = 0 := by simpa using hq
    rw [insK, if_neg (by rintro ⟨h, _⟩; simp at h)]
    rfl
  | x :: K, 0, hq, hl, hn => by
    have := hn (by simp)
    simp only [List.getElem_cons_zero] at this
    rw [insK, if_neg (by rw [this]; simp)]
    by_cases hx : x = k
    · rw [if_pos hx, if_pos ⟨by simp, hx⟩]
    · rw [if_neg hx, if_neg (by rintro ⟨_, h⟩; exact hx h)]
      rfl
  | x :: K, q + 1, hq, hl, hn => by
    have h0 := hl 0 (by omega)
    simp only [List.getElem_cons_zero] at h0
    rw [insK, if_pos h0, insK_split k K q (by simpa using hq) (fun j h => by have := hl (j + 1) (by omega); simpa using this) (fun h => by have := hn (by simpa using h); simpa using this)]
    by_cases hx : ∃ h : q < K.length, K[q]'h = k
    · rw [if_pos hx, if_pos (by obtain ⟨h, e⟩ := hx; exact ⟨by simpa using h, by simpa using e⟩)]
    · rw [if_neg hx, if_neg (by rintro ⟨h, e⟩; exact hx ⟨by simpa using h, by simpa using e⟩)]
      rfl
theorem insK_len (k : List UInt8) : ∀ K : List (List UInt8), (insK k K).length ≤ K.length + 1
  | [] => by rw [insK]; simp
  | x :: K => by
    rw [insK]
    by_cases h1 : lessB x k = true
    · rw [if_pos h1]; have := insK_len k K; simp only [List.length_cons]; omega
    · rw [if_neg h1]
      by_cases h2 : x = k
      · rw [if_pos h2]; simp
      · rw [if_neg h2]; simp
theorem lessB_same (x y : UInt8) (l m : List UInt8) (h : x = y) : lessB (x :: l) (y :: m) = lessB l m := by
  subst h
  rw [lessB, if_neg (by simp), if_pos rfl]
theorem lessB_diff (x y : UInt8) (l m : List UInt8) (h : x ≠ y) : lessB (x :: l) (y :: m) = decide (x.toNat < y.toNat) := by
  rw [lessB, if_neg h]
  by_cases hx : x < y
  · rw [if_pos hx, decide_eq_true (UInt8.lt_iff_toNat_lt.1 hx)]
  · rw [if_neg hx, decide_eq_false (fun hh => hx (UInt8.lt_iff_toNat_lt.2 hh))]
theorem lessB_nil (m : List UInt8) : lessB [] m = decide (0 < m.length) := by
  cases m with
  | nil => rfl
  | cons _ _ => rw [lessB]; simp
theorem lessB_cons_nil (x : UInt8) (l : List UInt8) : lessB (x :: l) [] = false := by rw [lessB]
end Go.Proofs.Ytpfpkpaodlmlaaa
namespace Go.Proofs.Ytpfpkpaodlmlaaa
set_option maxRecDepth 100000
set_option linter.unusedVariables false
section
variable {α : Type}
/-- A step leads from a number to one; it bears something. -/
abbrev Sp (α : Type) := Int × Int × α
/-- No step leads to x from one that is left. -/
def freeP (l : List (Sp α)) (left : List Int) (x : Int) : Prop := ∀ s ∈ l, ¬ (s.2.1 = x ∧ s.1 ∈ left)
def freeB (l : List (Sp α)) (left : List Int) (x : Int) : Bool := l.all fun s => !(decide (s.2.1 = x) && decide (s.1 ∈ left))
theorem free_iff (l : List (Sp α)) (left : List Int) (x : Int) : freeB l left x = true ↔ freeP l left x := by
  unfold freeB freeP
  rw [List.all_eq_true]
  constructor
  · intro h s hs hh
    have := h s hs
    simp [hh.1, hh.2] at this
  · intro h s hs
    have := h s hs
    simp only [Bool.not_eq_true', Bool.and_eq_false_iff, decide_eq_false_iff_not]
    by_cases h1 : s.2.1 = x
    · exact .inr fun h2 => this ⟨h1, h2⟩
    · exact .inl h1
/-- The least number of some. -/
def minI : List Int → Option Int
  | [] => none
  | x :: l => match minI l with
    | none => some x
    | some y => some (if x ≤ y then x else y)
theorem minI_none : ∀ l : List Int, minI l = none ↔ l = []
  | [] => by simp [minI]
  | x :: l => by
    rw [minI]
    cases minI l <;> simp
theorem minI_some : ∀ (l : List Int) (x : Int), minI l = some x ↔ x ∈ l ∧ ∀ y ∈ l, x ≤ y
  | [], x => by simp [minI]
  | a :: l, x => by
    rw [minI]
    cases hm : minI l with
    | none =>
      have := (minI_none l).1 hm
      subst this
      simp only [Option.some.injEq, List.mem_singleton]
      constructor
      · rintro rfl; exact ⟨rfl, fun y hy => by rw [hy]; exact Int.le_refl _⟩
      · intro h; exact h.1.symm
    | some b =>
      obtain ⟨h1, h2⟩ := (minI_some l b).1 hm
      simp only [Option.some.injEq]
      constructor
      · rintro rfl
        by_cases hab : a ≤ b
        · rw [if_pos hab]
          exact ⟨List.mem_cons_self .., fun y hy => by
            rcases List.mem_cons.1 hy with rfl | hy
            · exact Int.le_refl _
            · have := h2 y hy; omega⟩
        · rw [if_neg hab]
          exact ⟨List.mem_cons_of_mem _ h1, fun y hy => by
            rcases List.mem_cons.1 hy with rfl | hy
            · omega
            · exact h2 y hy⟩
      · intro ⟨g1, g2⟩
        have ga := g2 a (List.mem_cons_self ..)
        have gb := g2 b (List.mem_cons_of_mem _ h1)
        rcases List.mem_cons.1 g1 with rfl | g1
        · rw [if_pos gb]
        · have := h2 x g1
          by_cases hab : a ≤ b
          · rw [if_pos hab]; omega
          · rw [if_neg hab]; omega
/-- The least number that is left and free. -/
def bestL (l : List (Sp α)) (left : List Int) : Option Int := minI (left.filter fun x => freeB l left x)
def orderF (l : List (Sp α)) : Nat → List Int → Option (List Int)
  | 0, left => if left = [] then some [] else none
  | n + 1, left => if left = [] then some [] else
    match bestL l left with
    | none => none
    | some b => match orderF l n (left.filter fun x => decide (x ≠ b)) with
      | none => none
      | some o => some (b :: o)
def orderL (nodes : List Int) (l : List (Sp α)) : Option (List Int) := orderF l nodes.length nodes
theorem best_some (l : List (Sp α)) (left : List Int) (b : Int) : bestL l left = some b ↔ (b ∈ left ∧ freeP l left b) ∧ ∀ y ∈ left, freeP l left y → b ≤ y := by
  unfold bestL
  rw [minI_some]
  simp only [List.mem_filter, free_iff]
  constructor
  · intro ⟨h1, h2⟩; exact ⟨h1, fun y hy hf => h2 y ⟨hy, hf⟩⟩
  · intro ⟨h1, h2⟩; exact ⟨h1, fun y hy => h2 y hy.1 hy.2⟩
theorem best_none (l : List (Sp α)) (left : List Int) : bestL l left = none ↔ ∀ y ∈ left, ¬ freeP l left y := by
  unfold bestL
  rw [minI_none, List.filter_eq_nil_iff]
  constructor
  · intro h y hy hf; exact h y hy ((free_iff l left y).2 hf)
  · intro h y hy hf; exact h y hy ((free_iff l left y).1 hf)
theorem filter_less (left : List Int) (b : Int) (hb : b ∈ left) : (left.filter fun x => decide (x ≠ b)).length < left.length := by
  have h := List.length_filter_lt_length_iff_exists (p := fun x => decide (x ≠ b)) (l := left)
  exact h.2 ⟨b, hb, by simp⟩
/-- What an order is of; each goes ahead of those that it leads to. -/
theorem orderF_some (l : List (Sp α)) : ∀ (n : Nat) (left o : List Int), left.length ≤ n → orderF l n left = some o → o.Nodup ∧ (∀ x, x ∈ o ↔ x ∈ left) ∧ (∀ s ∈ l, s.1 ∈ left → s.2.1 ∈ left → ∃ p q r, o = p ++ s.1 :: q ++ s.2.1 :: r)
  | 0, left, o, hl, h => by
    have : left = [] := List.length_eq_zero_iff.1 (by omega)
    subst this
    rw [orderF, if_pos rfl] at h
    cases h
    exact ⟨List.nodup_nil, fun x => by simp, fun s _ h1 => by cases h1⟩
  | n + 1, left, o, hl, h => by
    rw [orderF] at h
    by_cases h0 : left = []
    · rw [if_pos h0] at h
      cases h
      subst h0
      exact ⟨List.nodup_nil, fun x => by simp, fun s _ h1 => by cases h1⟩
    · rw [if_neg h0] at h
      cases hb : bestL l left with
      | none => rw [hb] at h; cases h
      | some b =>
        rw [hb] at h
        simp only at h
        obtain ⟨⟨b1, b2⟩, b3⟩ := (best_some l left b).1 hb
        cases hr : orderF l n (left.filter fun x => decide (x ≠ b)) with
        | none => rw [hr] at h; cases h
        | some o' =>
          rw [hr] at h
          cases h
          have hlt := filter_less left b b1
          obtain ⟨i1, i2, i3⟩ := orderF_some l n _ o' (by omega) hr
          have hbo : b ∉ o' := fun hh => by
            have := (i2 b).1 hh
            simp at this
          refine ⟨List.nodup_cons.2 ⟨hbo, i1⟩, fun x => ?_, fun s hs h1 h2 => ?_⟩
          · rw [List.mem_cons, i2 x, List.mem_filter]
            constructor
            · rintro (rfl | h)
              · exact b1
              · exact h.1
            · intro hx
              by_cases hxb : x = b
              · exact .inl hxb
              · exact .inr ⟨hx, by simpa using hxb⟩
          · have hsb : s.2.1 ≠ b := fun he => b2 s hs ⟨he, h1⟩
            have m2 : s.2.1 ∈ left.filter fun x => decide (x ≠ b) := List.mem_filter.2 ⟨h2, by simpa using hsb⟩
            by_cases hfb : s.1 = b
            · obtain ⟨q, r, hqr⟩ := List.append_of_mem ((i2 s.2.1).2 m2)
              exact ⟨[], q, r, by rw [hqr, hfb]; rfl⟩
            · have m1 : s.1 ∈ left.filter fun x => decide (x ≠ b) := List.mem_filter.2 ⟨h1, by simpa using hfb⟩
              obtain ⟨p, q, r, hpq⟩ := i3 s hs m1 m2
              exact ⟨b :: p, q, r, by rw [hpq]; rfl⟩
/-- Where there is no order: some that are left, to each of which one of them leads. -/
theorem orderF_none (l : List (Sp α)) : ∀ (n : Nat) (left : List Int), left.length ≤ n → orderF l n left = none → ∃ core : List Int, core ≠ [] ∧ ∀ y ∈ core, ∃ s ∈ l, s.2.1 = y ∧ s.1 ∈ core
  | 0, left, hl, h => by
    have : left = [] := List.length_eq_zero_iff.1 (by omega)
    subst this
    rw [orderF, if_pos rfl] at h
    cases h
  | n + 1, left, hl, h => by
    rw [orderF] at h
    by_cases h0 : left = []
    · rw [if_pos h0] at h; cases h
    · rw [if_neg h0] at h
      cases hb : bestL l left with
      | none =>
        have hn := (best_none l left).1 hb
        refine ⟨left, h0, fun y hy => ?_⟩
        have := hn y hy
        unfold freeP at this
        have := Classical.not_forall.1 this
        obtain ⟨s, hs⟩ := this
        have := Classical.not_imp.1 hs
        exact ⟨s, this.1, (Classical.not_not.1 this.2).1, (Classical.not_not.1 this.2).2⟩
      | some b =>
        rw [hb] at h
        simp only at h
        have hb1 := ((best_some l left b).1 hb).1.1
        have hlt := filter_less left b hb1
        cases hr : orderF l n (left.filter fun x => decide (x ≠ b)) with
        | none => exact orderF_none l n _ (by omega) hr
        | some o' => rw [hr] at h; cases h
/-- A walk of n steps. -/
def Walk (l : List (Sp α)) : Nat → Int → Int → Prop
  | 0, x, y => x = y
  | n + 1, x, y => ∃ s, s ∈ l ∧ Walk l n s.2.1 y ∧ x = s.1
theorem Walk.nil {l : List (Sp α)} (x : Int) : Walk l 0 x x := rfl
theorem Walk.cons {l : List (Sp α)} (s : Sp α) (n : Nat) (y : Int) (hs : s ∈ l) (h : Walk l n s.2.1 y) : Walk l (n + 1) s.1 y := ⟨s, hs, h, rfl⟩
theorem Walk.elim {l : List (Sp α)} {motive : (n : Nat) → (x y : Int) → Walk l n x y → Prop} (nil : ∀ x, motive 0 x x (Walk.nil x)) (cons : ∀ (s : Sp α) (n : Nat) (y : Int) (hs : s ∈ l) (h : Walk l n s.2.1 y), motive n s.2.1 y h → motive (n + 1) s.1 y (Walk.cons s n y hs h)) {n : Nat} {x y : Int} (h : Walk l n x y) : motive n x y h := by
  induction n generalizing x with
  | zero => have e : x = y := h
            subst e; exact nil x
  | succ n ih =>
    obtain ⟨s, hs, h1, rfl⟩ := h
    exact cons s n y hs h1 (ih h1)
theorem Walk.append {l : List (Sp α)} {n m : Nat} {x y z : Int} (h : Walk l n x y) (k : Walk l m y z) : Walk l (n + m) x z := by
  induction h using Walk.elim with
  | nil x => rw [Nat.zero_add]; exact k
  | cons s n y hs _ ih => rw [show n + 1 + m = (n + m) + 1 by omega]; exact .cons s _ _ hs (ih k)
/-- The numbers at which steps begin. -/
def isStart (l : List (Sp α)) (x : Int) : Prop := ∃ s ∈ l, s.1 = x
theorem Walk.start {l : List (Sp α)} {n : Nat} {x y : Int} (h : Walk l (n + 1) x y) : isStart l x := by
  obtain ⟨s, hs, _, rfl⟩ := h
  exact ⟨s, hs, rfl⟩
/-- Pigeons: more of them than holes. -/
theorem pigeon : ∀ (S : List Int) (f : Nat → Int), (∀ i, i ≤ S.length → f i ∈ S) → ∃ i j, i < j ∧ j ≤ S.length ∧ f i = f j
  | [], f, h => by have := h 0 (by simp); cases this
  | S, f, h => by
    apply Classical.byContradiction
    intro hno
    have hinj : ∀ i j, i ≤ S.length → j ≤ S.length → f i = f j → i = j := fun i j hi hj he => by
      rcases Nat.lt_trichotomy i j with hh | hh | hh
      · exact absurd ⟨i, j, hh, hj, he⟩ hno
      · exact hh
      · exact absurd ⟨j, i, hh, hi, he.symm⟩ hno
    have hnd : ((List.range (S.length + 1)).map f).Nodup := by
      rw [List.nodup_iff_pairwise_ne, List.pairwise_map]
      refine List.Pairwise.imp_of_mem ?_ List.pairwise_lt_range
      intro a b ha hb hab he
      have := hinj a b (by have := List.mem_range.1 ha; omega) (by have := List.mem_range.1 hb; omega) he
      omega
    have hsub : ((List.range (S.length + 1)).map f) ⊆ S := fun x hx => by
      obtain ⟨i, hi, rfl⟩ := List.mem_map.1 hx
      exact h i (by have := List.mem_range.1 hi; omega)
    have := List.Nodup.length_le_of_subset hnd hsub
    simp at this
    omega
end
end Go.Proofs.Ytpfpkpaodlmlaaa
namespace Go.Proofs.Ytpfpkpaodlmlaaa
set_option maxRecDepth 100000
set_option linter.unusedVariables false
section
variable {α : Type}
/-- One behind the other, from a to b. -/
def chainB : List (Sp α) → Int → Int → Prop
  | [], a, b => a = b
  | s :: r, a, b => s.1 = a ∧ chainB r s.2.1 b
def closedP (r : List (Sp α)) : Prop := ∃ s r', r = s :: r' ∧ chainB r s.1 s.1
theorem chain_append : ∀ (p q : List (Sp α)) (a b : Int), chainB (p ++ q) a b ↔ ∃ c, chainB p a c ∧ chainB q c b
  | [], q, a, b => by simp [chainB]
  | s :: p, q, a, b => by
    rw [List.cons_append, chainB, chain_append p q]
    constructor
    · rintro ⟨h1, c, h2, h3⟩; exact ⟨c, ⟨h1, h2⟩, h3⟩
    · rintro ⟨c, ⟨h1, h2⟩, h3⟩; exact ⟨h1, c, h2, h3⟩
theorem chain_walk (l : List (Sp α)) : ∀ (r : List (Sp α)) (a b : Int), (∀ s ∈ r, s ∈ l) → chainB r a b → Walk l r.length a b
  | [], a, b, _, h => by rw [chainB] at h; rw [h]; exact .nil b
  | s :: r, a, b, hs, h => by
    rw [chainB] at h
    rw [← h.1]
    exact .cons s _ _ (hs s (List.mem_cons_self ..)) (chain_walk l r s.2.1 b (fun x hx => hs x (List.mem_cons_of_mem _ hx)) h.2)
theorem closed_walk {l r : List (Sp α)} (h : closedP r) (hs : ∀ s ∈ r, s ∈ l) : ∃ a, 1 ≤ r.length ∧ Walk l r.length a a := by
  obtain ⟨s, r', he, hc⟩ := h
  exact ⟨s.1, by rw [he]; simp, chain_walk l r _ _ hs hc⟩
def insI (k : Int) : List Int → List Int
  | [] => [k]
  | x :: l => if x < k then x :: insI k l else if x = k then x :: l else k :: x :: l
def startsF : List Int → List (Sp α) → List Int
  | acc, [] => acc
  | acc, s :: l => startsF (insI s.1 acc) l
def startsL (l : List (Sp α)) : List Int := startsF [] l
theorem insI_mem (k : Int) : ∀ (l : List Int) (y : Int), y ∈ insI k l ↔ y = k ∨ y ∈ l
  | [], y => by rw [insI]; simp
  | x :: l, y => by
    rw [insI]
    by_cases h1 : x < k
    · rw [if_pos h1, List.mem_cons, insI_mem k l y, List.mem_cons]
      constructor
      · rintro (h | h | h)
        · exact .inr (.inl h)
        · exact .inl h
        · exact .inr (.inr h)
      · rintro (h | h | h)
        · exact .inr (.inl h)
        · exact .inl h
        · exact .inr (.inr h)
    · rw [if_neg h1]
      by_cases h2 : x = k
      · rw [if_pos h2, List.mem_cons]
        constructor
        · intro h; exact .inr h
        · rintro (h | h)
          · exact .inl (by rw [h, h2])
          · exact h
      · rw [if_neg h2, List.mem_cons]
theorem insI_sorted (k : Int) : ∀ l : List Int, l.Pairwise (· < ·) → (insI k l).Pairwise (· < ·)
  | [], _ => by rw [insI]; exact List.pairwise_singleton ..
  | x :: l, h => by
    rw [insI]
    rw [List.pairwise_cons] at h
    by_cases h1 : x < k
    · rw [if_pos h1, List.pairwise_cons]
      refine ⟨fun y hy => ?_, insI_sorted k l h.2⟩
      rcases (insI_mem k l y).1 hy with rfl | hy
      · exact h1
      · exact h.1 y hy
    · rw [if_neg h1]
      by_cases h2 : x = k
      · rw [if_pos h2, List.pairwise_cons]; exact h
      · rw [if_neg h2, List.pairwise_cons]
        refine ⟨fun y hy => ?_, List.pairwise_cons.2 h⟩
        rcases List.mem_cons.1 hy with rfl | hy
        · omega
        · have := h.1 y hy; omega
theorem startsF_mem (y : Int) : ∀ (l : List (Sp α)) (acc : List Int), y ∈ startsF acc l ↔ y ∈ acc ∨ isStart l y
  | [], acc => by rw [startsF]; unfold isStart; simp
  | s :: l, acc => by
    rw [startsF, startsF_mem y l, insI_mem]
    unfold isStart
    constructor
    · rintro ((h | h) | ⟨z, hz, h⟩)
      · exact .inr ⟨s, List.mem_cons_self .., h.symm⟩
      · exact .inl h
      · exact .inr ⟨z, List.mem_cons_of_mem _ hz, h⟩
    · rintro (h | ⟨z, hz, h⟩)
      · exact .inl (.inr h)
      · rcases List.mem_cons.1 hz with rfl | hz
        · exact .inl (.inl h.symm)
        · exact .inr ⟨z, hz, h⟩
theorem starts_mem (l : List (Sp α)) (y : Int) : y ∈ startsL l ↔ isStart l y := by unfold startsL; rw [startsF_mem]; simp
theorem startsF_sorted : ∀ (l : List (Sp α)) (acc : List Int), acc.Pairwise (· < ·) → (startsF acc l).Pairwise (· < ·)
  | [], acc, h => h
  | s :: l, acc, h => startsF_sorted l _ (insI_sorted s.1 acc h)
theorem starts_sorted (l : List (Sp α)) : (startsL l).Pairwise (· < ·) := startsF_sorted l [] List.Pairwise.nil
/-- Who reaches a number in just n steps. -/
def wayB (l : List (Sp α)) (to : Int) : Nat → Int → Bool
  | 0, x => decide (x = to)
  | n + 1, x => l.any fun s => decide (s.1 = x) && wayB l to n s.2.1
theorem way_iff (l : List (Sp α)) (to : Int) : ∀ (n : Nat) (x : Int), wayB l to n x = true ↔ Walk l n x to
  | 0, x => by
    rw [wayB, decide_eq_true_eq]
    constructor
    · rintro rfl; exact .nil x
    · intro h; cases h; rfl
  | n + 1, x => by
    rw [wayB, List.any_eq_true]
    constructor
    · rintro ⟨s, hs, h⟩
      rw [Bool.and_eq_true, decide_eq_true_eq, way_iff l to n] at h
      rw [← h.1]
      exact .cons s n to hs h.2
    · intro h
      obtain ⟨s, hs, h, rfl⟩ := h
      exact ⟨s, hs, by rw [Bool.and_eq_true, decide_eq_true_eq, way_iff l to n]; exact ⟨rfl, h⟩⟩
def ringAt (l : List (Sp α)) (n : Nat) : Option Int := (startsL l).find? fun s => wayB l s n s
/-- The least number of steps of a ring, less 1. -/
def ringN (l : List (Sp α)) : Option Nat := fi (fun n => (ringAt l (n + 1)).isSome) (startsL l).length
/-- Step by step the first one from which the end is reached. -/
def ringPath (l : List (Sp α)) (to : Int) : Nat → Int → List (Sp α)
  | 0, _ => []
  | n + 1, x => match l.find? fun s => decide (s.1 = x) && wayB l to n s.2.1 with
    | none => []
    | some s => s :: ringPath l to n s.2.1
def ringL (l : List (Sp α)) : Option (List (Sp α)) :=
  match ringN l with
  | none => none
  | some n => match ringAt l (n + 1) with
    | none => none
    | some s => some (ringPath l s (n + 1) s)
theorem path_ok (l : List (Sp α)) (to : Int) : ∀ (n : Nat) (x : Int), Walk l n x to → chainB (ringPath l to n x) x to ∧ (ringPath l to n x).length = n ∧ ∀ s ∈ ringPath l to n x, s ∈ l
  | 0, x, h => by cases h; exact ⟨rfl, rfl, fun s hs => by cases hs⟩
  | n + 1, x, h => by
    rw [ringPath]
    cases hf : l.find? fun s => decide (s.1 = x) && wayB l to n s.2.1 with
    | none =>
      exfalso
      obtain ⟨s, hs, h, rfl⟩ := h
      have := List.find?_eq_none.1 hf s hs
      rw [Bool.and_eq_true, decide_eq_true_eq, way_iff l to n] at this
      exact this ⟨rfl, h⟩
    | some s =>
      have h1 := List.find?_some hf
      have h2 := List.mem_of_find?_eq_some hf
      simp only [Bool.and_eq_true, decide_eq_true_eq, way_iff l to n] at h1
      obtain ⟨i1, i2, i3⟩ := path_ok l to n s.2.1 h1.2
      refine ⟨⟨h1.1, i1⟩, by simp only [List.length_cons, i2], fun z hz => ?_⟩
      rcases List.mem_cons.1 hz with rfl | hz
      · exact h2
      · exact i3 z hz
theorem ring_at (l : List (Sp α)) (n : Nat) (s : Int) (h : ringAt l n = some s) : s ∈ startsL l ∧ Walk l n s s ∧ ∀ y ∈ startsL l, Walk l n y y → s ≤ y := by
  unfold ringAt at h
  obtain ⟨h1, h2⟩ := List.find?_eq_some_iff_append.1 h
  obtain ⟨p, q, hpq, hno⟩ := h2
  refine ⟨by rw [hpq]; simp, (way_iff _ _ _ _).1 h1, fun y hy hwy => ?_⟩
  rw [hpq] at hy
  rcases List.mem_append.1 hy with hy | hy
  · have := hno y hy
    rw [(way_iff l y n y).2 hwy] at this
    cases this
  · rcases List.mem_cons.1 hy with rfl | hy
    · exact Int.le_refl _
    · have hs := starts_sorted l
      rw [hpq] at hs
      have := (List.pairwise_append.1 hs).2.1
      have := (List.pairwise_cons.1 this).1 y hy
      omega
/-- What is told is a ring of these steps. -/
theorem ring_some (l r : List (Sp α)) (h : ringL l = some r) : closedP r ∧ (∀ s ∈ r, s ∈ l) ∧ (∀ n s, 1 ≤ n → n ≤ (startsL l).length → Walk l n s s → r.length ≤ n) := by
  unfold ringL at h
  cases hn : ringN l with
  | none => rw [hn] at h; cases h
  | some n =>
    rw [hn] at h
    simp only at h
    cases ha : ringAt l (n + 1) with
    | none => rw [ha] at h; cases h
    | some s =>
      rw [ha] at h
      cases h
      obtain ⟨a1, a2, a3⟩ := ring_at l (n + 1) s ha
      obtain ⟨p1, p2, p3⟩ := path_ok l s (n + 1) s a2
      refine ⟨?_, p3, fun m y hm hml hw => ?_⟩
      · cases hr : ringPath l s (n + 1) s with
        | nil => rw [hr] at p2; cases p2
        | cons z r' =>
          rw [hr] at p1
          have hz : z.1 = s := p1.1
          exact ⟨z, r', rfl, by rw [hz]; exact p1⟩
      · rw [p2]
        have hno := ((fi_some _ _ _).1 hn).2.2
        rcases Nat.lt_or_ge (m - 1) n with hh | hh
        · exfalso
          have := hno (m - 1) hh
          rw [show m - 1 + 1 = m by omega] at this
          have hst : y ∈ startsL l := (starts_mem l y).2 (by rw [show m = m - 1 + 1 by omega] at hw; exact hw.start)
          unfold ringAt at this
          rw [Option.isSome_eq_false_iff, Option.isNone_iff_eq_none, List.find?_eq_none] at this
          exact this y hst ((way_iff _ _ _ _).2 hw)
        · omega
theorem ring_found (l : List (Sp α)) (n : Nat) (s : Int) (h1 : 1 ≤ n) (h2 : n ≤ (startsL l).length) (hw : Walk l n s s) : ∃ r, ringL l = some r := by
  have hst : s ∈ startsL l := (starts_mem l s).2 (by rw [show n = n - 1 + 1 by omega] at hw; exact hw.start)
  have hat : ∀ m, (ringAt l (m + 1)).isSome = true ↔ ∃ y ∈ startsL l, Walk l (m + 1) y y := fun m => by
    unfold ringAt
    rw [List.find?_isSome]
    constructor
    · rintro ⟨y, hy, h⟩; exact ⟨y, hy, (way_iff _ _ _ _).1 h⟩
    · rintro ⟨y, hy, h⟩; exact ⟨y, hy, (way_iff _ _ _ _).2 h⟩
  unfold ringL
  cases hn : ringN l with
  | none =>
    exfalso
    have := (fi_none _ _).1 hn (n - 1) (by omega)
    rw [show n - 1 + 1 = n by omega] at this
    have h' := (hat (n - 1)).2 ⟨s, hst, by rw [show n - 1 + 1 = n by omega]; exact hw⟩
    rw [show n - 1 + 1 = n by omega, this] at h'
    cases h'
  | some m =>
    simp only
    have := ((fi_some _ _ _).1 hn).2.1
    cases ha : ringAt l (m + 1) with
    | none => rw [ha] at this; cases this
    | some y => exact ⟨_, rfl⟩
/-- The numbers of a walk. -/
theorem Walk.along {l : List (Sp α)} {n : Nat} {x y : Int} (h : Walk l n x y) : ∃ f : Nat → Int, f 0 = x ∧ f n = y ∧ ∀ i, i < n → ∃ s ∈ l, s.1 = f i ∧ s.2.1 = f (i + 1) := by
  induction h using Walk.elim with
  | nil x => exact ⟨fun _ => x, rfl, rfl, fun i hi => by omega⟩
  | cons s n y hs _ ih =>
    obtain ⟨f, f0, fn, hf⟩ := ih
    refine ⟨fun i => match i with | 0 => s.1 | i + 1 => f i, rfl, fn, fun i hi => ?_⟩
    match i with
    | 0 => exact ⟨s, hs, rfl, f0.symm⟩
    | i + 1 => exact hf i (by omega)
theorem walk_part {l : List (Sp α)} {f : Nat → Int} {n : Nat} (hf : ∀ i, i < n → ∃ s ∈ l, s.1 = f i ∧ s.2.1 = f (i + 1)) : ∀ (d i : Nat), i + d ≤ n → Walk l d (f i) (f (i + d))
  | 0, i, _ => .nil _
  | d + 1, i, h => by
    obtain ⟨s, hs, h1, h2⟩ := hf i (by omega)
    have := walk_part hf d (i + 1) (by omega)
    rw [← h2, show i + 1 + d = i + (d + 1) by omega] at this
    rw [← h1]
    exact .cons s d _ hs this
/-- In a long walk some number comes twice. -/
theorem walk_twice (l : List (Sp α)) {n : Nat} {f : Nat → Int} (hn : (startsL l).length < n) (hf : ∀ i, i < n → ∃ s ∈ l, s.1 = f i ∧ s.2.1 = f (i + 1)) : ∃ i j, i < j ∧ j ≤ (startsL l).length ∧ f i = f j := by
  refine pigeon (startsL l) f fun i hi => ?_
  obtain ⟨s, hs, h1, _⟩ := hf i (by omega)
  exact (starts_mem l _).2 ⟨s, hs, h1⟩
/-- Each ring may be cut to one of no more steps than there are beginnings. -/
theorem ring_short (l : List (Sp α)) (n : Nat) (s : Int) (h1 : 1 ≤ n) (hw : Walk l n s s) : ∃ m y, 1 ≤ m ∧ m ≤ n ∧ m ≤ (startsL l).length ∧ Walk l m y y := by
  rcases Nat.lt_or_ge (startsL l).length n with hlt | hge
  · obtain ⟨f, f0, fn, hf⟩ := hw.along
    obtain ⟨i, j, hij, hj, he⟩ := walk_twice l hlt hf
    have := walk_part hf (j - i) i (by omega)
    rw [show i + (j - i) = j by omega, ← he] at this
    exact ⟨j - i, f i, by omega, by omega, by omega, this⟩
  · exact ⟨n, s, h1, Nat.le_refl _, hge, hw⟩
theorem ring_of_walk (l : List (Sp α)) (n : Nat) (s : Int) (h1 : 1 ≤ n) (hw : Walk l n s s) : ∃ r, ringL l = some r ∧ r.length ≤ n := by
  obtain ⟨m, y, g1, g2, g3, g4⟩ := ring_short l n s h1 hw
  obtain ⟨r, hr⟩ := ring_found l m y g1 g3 g4
  exact ⟨r, hr, by have := (ring_some l r hr).2.2 m y g1 g3 g4; omega⟩
/-- Where each of some has one of them ahead, there is a ring. -/
theorem ring_of_core (l : List (Sp α)) (core : List Int) (hne : core ≠ []) (hc : ∀ y ∈ core, ∃ s ∈ l, s.2.1 = y ∧ s.1 ∈ core) : ∃ r, ringL l = some r := by
  obtain ⟨y0, hy0⟩ := List.exists_mem_of_ne_nil core hne
  have hback : ∀ n, ∃ z, z ∈ core ∧ Walk l n z y0 := by
    intro n
    induction n with
    | zero => exact ⟨y0, hy0, .nil y0⟩
    | succ n ih =>
      obtain ⟨z, hz, hw⟩ := ih
      obtain ⟨s, hs, h1, h2⟩ := hc z hz
      exact ⟨s.1, h2, .cons s n y0 hs (by rw [h1]; exact hw)⟩
  obtain ⟨z, hz, hw⟩ := hback ((startsL l).length + 1)
  obtain ⟨f, f0, fn, hf⟩ := hw.along
  obtain ⟨i, j, hij, hj, he⟩ := walk_twice l (by omega) hf
  have := walk_part hf (j - i) i (by omega)
  rw [show i + (j - i) = j by omega, ← he] at this
  exact ring_found l (j - i) (f i) (by omega) (by omega) this
/-- All numbers of steps. -/
def nodesL (l : List (Sp α)) : List Int := l.flatMap fun s => [s.1, s.2.1]
theorem nodes_mem (l : List (Sp α)) (s : Sp α) (hs : s ∈ l) : s.1 ∈ nodesL l ∧ s.2.1 ∈ nodesL l :=
  ⟨List.mem_flatMap.2 ⟨s, hs, by simp⟩, List.mem_flatMap.2 ⟨s, hs, by simp⟩⟩
/-- The place of a number in an order. -/
theorem before_idx (o p q r : List Int) (a b : Int) (hn : o.Nodup) (h : o = p ++ a :: q ++ b :: r) : o.idxOf a < o.idxOf b := by
  rw [h] at hn ⊢
  rw [List.append_assoc] at hn ⊢
  have h1 := (List.nodup_append.1 hn)
  have ha : a ∉ p := fun hh => h1.2.2 a hh a (by simp) rfl
  have hb : b ∉ p := fun hh => h1.2.2 b hh b (by simp) rfl
  have h2 := List.nodup_cons.1 (show (a :: (q ++ b :: r)).Nodup from by simpa using h1.2.1)
  have hab : a ≠ b := fun hh => h2.1 (by rw [hh]; simp)
  rw [List.cons_append, List.idxOf_append (a := a) (l₁ := p), if_neg ha, List.idxOf_append (a := b) (l₁ := p), if_neg hb, List.idxOf_cons_self, List.idxOf_cons (y := b), beq_eq_false_iff_ne.2 hab, cond_false]
  omega
/-- Where there is an order of all numbers there is no walk back. -/
theorem order_no_walk (l : List (Sp α)) (nodes o : List Int) (h : orderL nodes l = some o) (hall : ∀ s ∈ l, s.1 ∈ nodes ∧ s.2.1 ∈ nodes) : ∀ n x y, 1 ≤ n → Walk l n x y → o.idxOf x < o.idxOf y := by
  obtain ⟨h1, h2, h3⟩ := orderF_some l nodes.length nodes o (Nat.le_refl _) h
  have hstep : ∀ s ∈ l, o.idxOf s.1 < o.idxOf s.2.1 := fun s hs => by
    obtain ⟨p, q, r, hp⟩ := h3 s hs (hall s hs).1 (hall s hs).2
    exact before_idx o p q r _ _ h1 hp
  intro n
  induction n with
  | zero => intro x y h0; omega
  | succ n ih =>
    intro x y _ hw
    obtain ⟨s, hs, hw, rfl⟩ := hw
    have a1 := hstep s hs
    rcases Nat.eq_zero_or_pos n with hn | hn
    · subst hn
      cases hw
      exact a1
    · have := ih s.2.1 y hn hw
      omega
/-- Of all numbers of steps there is an order just if there is no ring. -/
theorem ring_either (l : List (Sp α)) : (∃ o, orderL (nodesL l) l = some o) ↔ ringL l = none := by
  constructor
  · rintro ⟨o, ho⟩
    cases hr : ringL l with
    | none => rfl
    | some r =>
      exfalso
      obtain ⟨h1, h2, _⟩ := ring_some l r hr
      obtain ⟨a, h3, h4⟩ := closed_walk h1 h2
      have := order_no_walk l (nodesL l) o ho (fun s hs => nodes_mem l s hs) r.length a a h3 h4
      omega
  · intro hr
    cases ho : orderL (nodesL l) l with
    | some o => exact ⟨o, rfl⟩
    | none =>
      exfalso
      obtain ⟨core, h1, h2⟩ := orderF_none l _ _ (Nat.le_refl _) ho
      obtain ⟨r, hr'⟩ := ring_of_core l core h1 h2
      rw [hr] at hr'
      cases hr'
end
end Go.Proofs.Ytpfpkpaodlmlaaa
namespace Go.Proofs.Ytpfpkpaodlmlaaa
set_option maxRecDepth 100000
set_option linter.unusedVariables false
abbrev Stp := Sp (List Ed)
def one1 (e : Ed) : Stp := (e.2.1, e.2.2.1, [e])
def two2 (e g : Ed) : Stp := (e.2.1, g.2.2.1, [e, g])
def stepOf (level : Int) (l : List Ed) (e : Ed) : List Stp :=
  (if level = 1 ∨ level = 2 ∧ e.1 ≠ 3 then [one1 e] else []) ++ (if level = 2 ∧ e.1 ≠ 3 then l.filterMap fun g => if g.1 = 3 ∧ g.2.1 = e.2.2.1 then some (two2 e g) else none else [])
def stepsL (level : Int) (l : List Ed) : List Stp := l.flatMap (stepOf level l)
theorem steps_one (level : Int) (l : List Ed) (e : Ed) (he : e ∈ l) (h : level = 1 ∨ level = 2 ∧ e.1 ≠ 3) : one1 e ∈ stepsL level l := by
  refine List.mem_flatMap.2 ⟨e, he, List.mem_append.2 (.inl ?_)⟩
  rw [if_pos h]; exact List.mem_singleton.2 rfl
theorem steps_two (l : List Ed) (e g : Ed) (he : e ∈ l) (hg : g ∈ l) (h3 : e.1 ≠ 3) (g3 : g.1 = 3) (hm : g.2.1 = e.2.2.1) : two2 e g ∈ stepsL 2 l := by
  refine List.mem_flatMap.2 ⟨e, he, List.mem_append.2 (.inr ?_)⟩
  rw [if_pos ⟨rfl, h3⟩]
  exact List.mem_filterMap.2 ⟨g, hg, by rw [if_pos ⟨g3, hm⟩]⟩
theorem steps_cases (level : Int) (l : List Ed) (s : Stp) (hs : s ∈ stepsL level l) : (∃ e ∈ l, (level = 1 ∨ level = 2 ∧ e.1 ≠ 3) ∧ s = one1 e) ∨ (level = 2 ∧ ∃ e ∈ l, ∃ g ∈ l, e.1 ≠ 3 ∧ g.1 = 3 ∧ g.2.1 = e.2.2.1 ∧ s = two2 e g) := by
  obtain ⟨e, he, h⟩ := List.mem_flatMap.1 hs
  rcases List.mem_append.1 h with h | h
  · left
    by_cases hc : level = 1 ∨ level = 2 ∧ e.1 ≠ 3
    · rw [if_pos hc, List.mem_singleton] at h; exact ⟨e, he, hc, h⟩
    · rw [if_neg hc] at h; cases h
  · right
    by_cases hc : level = 2 ∧ e.1 ≠ 3
    · rw [if_pos hc] at h
      obtain ⟨g, hg, h⟩ := List.mem_filterMap.1 h
      by_cases h3 : g.1 = 3 ∧ g.2.1 = e.2.2.1
      · rw [if_pos h3] at h; exact ⟨hc.1, e, he, g, hg, hc.2, h3.1, h3.2, (Option.some.inj h).symm⟩
      · rw [if_neg h3] at h; cases h
    · rw [if_neg hc] at h; cases h
/-- Two that stand together. -/
def relE (level : Int) (x y : Ed) : Prop := x.2.2.1 = y.2.1 ∧ ¬ (level = 2 ∧ x.1 = 3 ∧ y.1 = 3)
def chainR (level : Int) : List Ed → Ed → Prop
  | [], _ => True
  | [e], f => relE level e f
  | e :: e' :: r, f => relE level e e' ∧ chainR level (e' :: r) f
def cyc (level : Int) : List Ed → Prop
  | [] => False
  | e :: r => chainR level (e :: r) e
theorem chainR_snoc (level : Int) : ∀ (r : List Ed) (e f g : Ed), chainR level (r ++ [e]) f → relE level f g → chainR level (r ++ [e, f]) g
  | [], e, f, g, h, k => ⟨h, k⟩
  | [a], e, f, g, h, k => ⟨h.1, h.2, k⟩
  | a :: b :: r, e, f, g, h, k => ⟨h.1, chainR_snoc level (b :: r) e f g h.2 k⟩
/-- From the next one on. -/
theorem cyc_turn (level : Int) (e : Ed) (r : List Ed) (h : cyc level (e :: r)) : cyc level (r ++ [e]) := by
  match r, h with
  | [], h => exact h
  | a :: r, h =>
    have hc : chainR level (e :: a :: r) e := h
    show chainR level (a :: (r ++ [e])) a
    have h1 : relE level e a := hc.1
    have h2 : chainR level (a :: r) e := hc.2
    rcases List.eq_nil_or_concat r with rfl | ⟨q, z, rfl⟩
    · exact ⟨h2, h1⟩
    · have h2' : chainR level ((a :: q) ++ [z]) e := by simpa using h2
      have := chainR_snoc level (a :: q) z e a h2' h1
      simpa using this
/-- Nonempty ways of edges that are no GOver. -/
def wayNI (l : List Ed) (a : Int) : Nat → Int → Prop
  | 0, b => ∃ e : Ed, e ∈ l ∧ e.1 ≠ 3 ∧ e.2.1 = a ∧ b = e.2.2.1
  | n + 1, b => ∃ e : Ed, e ∈ l ∧ e.1 ≠ 3 ∧ wayNI l a n e.2.1 ∧ b = e.2.2.1
def WayN (l : List Ed) (a b : Int) : Prop := ∃ n, wayNI l a n b
theorem WayN.one {l : List Ed} {a : Int} (e : Ed) (h1 : e ∈ l) (h2 : e.1 ≠ 3) (h3 : e.2.1 = a) : WayN l a e.2.2.1 := ⟨0, e, h1, h2, h3, rfl⟩
theorem WayN.go {l : List Ed} {a : Int} (e : Ed) (h1 : e ∈ l) (h2 : e.1 ≠ 3) (h3 : WayN l a e.2.1) : WayN l a e.2.2.1 := by
  obtain ⟨n, hn⟩ := h3
  exact ⟨n + 1, e, h1, h2, hn, rfl⟩
theorem WayN.elim {l : List Ed} {a : Int} {motive : (b : Int) → WayN l a b → Prop} (one : ∀ (e : Ed) (h1 : e ∈ l) (h2 : e.1 ≠ 3) (h3 : e.2.1 = a), motive e.2.2.1 (WayN.one e h1 h2 h3)) (go : ∀ (e : Ed) (h1 : e ∈ l) (h2 : e.1 ≠ 3) (h3 : WayN l a e.2.1), motive e.2.1 h3 → motive e.2.2.1 (WayN.go e h1 h2 h3)) {b : Int} (h : WayN l a b) : motive b h := by
  obtain ⟨n, hn⟩ := h
  induction n generalizing b with
  | zero =>
    obtain ⟨e, h1, h2, h3, rfl⟩ := hn
    exact one e h1 h2 h3
  | succ n ih =>
    obtain ⟨e, h1, h2, h3, rfl⟩ := hn
    exact go e h1 h2 ⟨n, h3⟩ (ih h3)
theorem v_wayN (h : List Ev) (key : List UInt8) (n : Nat) : ∀ m, n < m → m < (versL h key).length → WayN (edgesL h) (tx h (vAt (versL h key) n)) (tx h (vAt (versL h key) m))
  | 0, hnm, hm => by omega
  | m + 1, hnm, hm => by
    have he := w_edge h key (ver_key h key _ hm) m hm
    rcases Nat.lt_or_ge n m with hh | hh
    · exact .go _ he (by simp) (v_wayN h key n m hh (by omega))
    · obtain rfl : n = m := by omega
      exact .one _ he (by simp) rfl
/-- What holds follows from the edges: no GOver by others than such, a GOver by one ahead of such. -/
theorem follow_kinds {h : List Ev} (hw : WF h) (hcl : clean h) (e : Ed) (he : holdsL h e) : WayN (edgesL h) e.2.1 e.2.2.1 ∨ (e.1 = 3 ∧ ∃ g ∈ edgesL h, g.1 = 3 ∧ g.2.1 = e.2.1 ∧ (g.2.2.1 = e.2.2.1 ∨ WayN (edgesL h) g.2.2.1 e.2.2.1)) := by
  obtain ⟨a, b, i, j, ca, cb, hne, hI, hJ, hi, hj, hkey, ti, tj, hcase⟩ := he
  have vers : ∀ (t : Int) (c q : Nat), commL h t = some c → q < h.length → (ev h q).1 = 3 → tx h q = t → ∃ n, n < (versL h (ev h q).2.2.1).length ∧ tx h (vAt (versL h (ev h q).2.2.1) n) = t ∧ srcAt h (ev h q).2.2.1 n = c := by
    intro t c q hc hq h3 ht
    obtain ⟨c1, c2⟩ := (commL_some _ _ _).1 hc
    obtain ⟨f', e', g0, g1, g2, g3, g4, g5, g6⟩ := wf_life hw hq
    have ht' : (ev h q).2.1 = t := ht
    rw [ht', c1] at g1
    cases g1
    have hqe : q ≠ c := fun hh => by rw [hh, c2] at h3; cases h3
    cases hl : lastN h t (ev h q).2.2.1 c with
    | none => exact absurd ⟨h3, ht, rfl⟩ ((lastN_none _ _ _ _).1 hl q (by omega))
    | some w =>
      obtain ⟨n, n1, n2, n3⟩ := ver_index h (ev h q).2.2.1 t c w hc hl
      refine ⟨n, n1, ?_, n3⟩
      rw [n2]; exact ((lastN_some _ _ _ _ _).1 hl).2.1.2.1
  have along : ∀ (key : List UInt8) (n m : Nat), n < (versL h key).length → m < (versL h key).length → srcAt h key n < srcAt h key m → WayN (edgesL h) (tx h (vAt (versL h key) n)) (tx h (vAt (versL h key) m)) := fun key n m hn hm hlt => v_wayN h key n m (src_mono h key n m hn hm hlt) hm
  rcases hcase with ⟨_, hi3, hj3, hab⟩ | ⟨_, hi3, hj2, hv⟩ | ⟨he3, hi2, hj3, hv⟩
  · left
    obtain ⟨n, n1, n2, n3⟩ := vers e.2.1 a i ca hi hi3 ti
    obtain ⟨m, m1, m2, m3⟩ := vers e.2.2.1 b j cb hj hj3 tj
    rw [← hkey] at m1 m2 m3
    have := along _ n m n1 m1 (by omega)
    rw [n2, m2] at this
    exact this
  · left
    obtain ⟨f', e', g0, g1, g2, g3, g4, g5, g6⟩ := wf_life hw hj
    have tj' : (ev h j).2.1 = e.2.2.1 := tj
    have hjb : j < b := by
      have := ((commL_some _ _ _).1 cb).1
      rw [tj', this] at g1
      cases g1
      have : j ≠ b := fun hh => by have := ((commL_some _ _ _).1 cb).2; rw [← hh, hj2] at this; cases this
      omega
    have hcj : countsL h j := ⟨hj, hj2, b, by rw [tj']; exact cb, hjb⟩
    have hln : lastN h (ev h j).2.1 (ev h j).2.2.1 j = none := by
      cases hl : lastN h (ev h j).2.1 (ev h j).2.2.1 j with
      | none => rfl
      | some k =>
        exfalso
        have hk := clean_own hcl hcj hl
        obtain ⟨l1, l2, _⟩ := (lastN_some _ _ _ _ _).1 hl
        have : k = i := wr_one hw (by omega) hi l2.1 hi3 (by rw [hk, hv])
        apply hne
        rw [← ti, ← tj, ← this]
        exact l2.2.1
    have hwr : writerL h (ev h j).2.2.1 (ev h j).2.2.2 = some i := by
      have := writer_is hw hi hi3
      rw [hkey, hv] at this
      exact this
    have hvne : (ev h j).2.2.2 ≠ [] := by rw [← hv]; exact wr_nonempty hw hi hi3
    obtain ⟨o1, c, o2, o3⟩ := clean_other hcl hcj hln hvne hwr
    obtain ⟨n, n1, n2, n3⟩ := ver_index h (ev h j).2.2.1 (ev h i).2.1 c i o2 o3
    have hva : verAt h (versL h (ev h j).2.2.1) j = some n := by
      rw [verAt_some]
      refine ⟨n1, by rw [n2, hv], fun q hq hh => ?_⟩
      obtain ⟨r1, r2, r3, r4, r5⟩ := ver_facts h (ev h j).2.2.1 q (by omega)
      have : vAt (versL h (ev h j).2.2.1) q = i := wr_one hw (by omega) hi r4 hi3 (by rw [hh, hv])
      exact tx_ne h (ev h j).2.2.1 q n hq n1 (by rw [this, n2])
    have hed := r_edges h j hcj hln (2, tx h i, tx h j, (i : Int), (j : Int)) (by
      unfold rdEdges
      rw [hva]
      refine List.mem_append.2 (.inl ?_)
      unfold rEdge
      rw [n2, if_neg (show ¬ tx h i = tx h j from o1)]
      exact List.mem_singleton.2 rfl)
    have := WayN.one (a := tx h i) _ hed (by simp) rfl
    rw [← ti, ← tj]
    exact this
  · obtain ⟨f', e', g0, g1, g2, g3, g4, g5, g6⟩ := wf_life hw hi
    have ti' : (ev h i).2.1 = e.2.1 := ti
    have hia : i < a := by
      have := ((commL_some _ _ _).1 ca).1
      rw [ti', this] at g1
      cases g1
      have : i ≠ a := fun hh => by have := ((commL_some _ _ _).1 ca).2; rw [← hh, hi2] at this; cases this
      omega
    have hci : countsL h i := ⟨hi, hi2, a, by rw [ti']; exact ca, hia⟩
    obtain ⟨m, m1, m2, m3⟩ := vers e.2.2.1 b j cb hj hj3 tj
    rw [← hkey] at m1 m2 m3
    have over : ∀ n, n ≤ m → (∀ x : Ed, x ∈ oEdge h (versL h (ev h i).2.2.1) i n → x ∈ rdEdges h (versL h (ev h i).2.2.1) i) → lastN h (ev h i).2.1 (ev h i).2.2.1 i = none → WayN (edgesL h) e.2.1 e.2.2.1 ∨ (e.1 = 3 ∧ ∃ g ∈ edgesL h, g.1 = 3 ∧ g.2.1 = e.2.1 ∧ (g.2.2.1 = e.2.2.1 ∨ WayN (edgesL h) g.2.2.1 e.2.2.1)) := by
      intro n hnm hsub hln
      by_cases ht : tx h (vAt (versL h (ev h i).2.2.1) n) = tx h i
      · left
        rcases Nat.lt_or_ge n m with hh | hh
        · have := v_wayN h (ev h i).2.2.1 n m hh m1
          rw [ht, ti, m2] at this
          exact this
        · exfalso
          obtain rfl : n = m := by omega
          rw [m2] at ht
          exact hne (by rw [← ti]; exact ht.symm)
      · right
        have hed := r_edges h i hci hln (3, tx h i, tx h (vAt (versL h (ev h i).2.2.1) n), (i : Int), (vAt (versL h (ev h i).2.2.1) n : Int)) (hsub _ (by
          unfold oEdge
          rw [if_pos ⟨by omega, ht⟩]
          exact List.mem_singleton.2 rfl))
        refine ⟨he3, _, hed, rfl, ti, ?_⟩
        rcases Nat.lt_or_ge n m with hh | hh
        · right
          have := v_wayN h (ev h i).2.2.1 n m hh m1
          rw [m2] at this
          exact this
        · left
          obtain rfl : n = m := by omega
          exact m2
    cases hl : lastN h (ev h i).2.1 (ev h i).2.2.1 i with
    | some k =>
      have hk := clean_own hcl hci hl
      obtain ⟨l1, l2, _⟩ := (lastN_some _ _ _ _ _).1 hl
      rcases hv with hv | ⟨w, c, w1, w2, w3, w4⟩
      · exact absurd (by rw [hk, hv]) (wr_nonempty hw (by omega) l2.1)
      · left
        obtain ⟨p1, p2, _⟩ := (writerL_some _ _ _ _).1 w1
        have hwk : w = k := wr_one hw p1 (by omega) p2.1 l2.1 (by rw [p2.2.2, hk])
        have htw : tx h w = e.2.1 := by rw [hwk]; exact l2.2.1.trans ti
        rw [htw, ca] at w3
        cases w3
        obtain ⟨n, n1, n2, n3⟩ := vers e.2.1 a k ca (by omega) l2.1 (by rw [← hwk]; exact htw)
        rw [l2.2.2] at n1 n2 n3
        have := along _ n m n1 m1 (by omega)
        rw [n2, m2] at this
        exact this
    | none =>
      by_cases hev : (ev h i).2.2.2 = []
      · have hva : verAt h (versL h (ev h i).2.2.1) i = none := by
          rw [verAt_none]
          intro q hq hh
          obtain ⟨r1, r2, r3, r4, r5⟩ := ver_facts h (ev h i).2.2.1 q hq
          exact wr_nonempty hw (by omega) r4 (by rw [hh, hev])
        exact over 0 (by omega) (fun x hx => by unfold rdEdges; rw [hva]; simp only; rw [if_pos hev]; exact hx) hl
      · rcases hv with hv | ⟨w, c, w1, w2, w3, w4⟩
        · exact absurd hv hev
        · obtain ⟨o1, c', o2, o3⟩ := clean_other hcl hci hl hev w1
          have w3' : commL h (ev h w).2.1 = some c := w3
          rw [w3'] at o2
          cases o2
          obtain ⟨p1, p2, _⟩ := (writerL_some _ _ _ _).1 w1
          obtain ⟨n, n1, n2, n3⟩ := ver_index h (ev h i).2.2.1 (ev h w).2.1 c w w3' o3
          have hva : verAt h (versL h (ev h i).2.2.1) i = some n := by
            rw [verAt_some]
            refine ⟨n1, by rw [n2, p2.2.2], fun q hq hh => ?_⟩
            obtain ⟨r1, r2, r3, r4, r5⟩ := ver_facts h (ev h i).2.2.1 q (by omega)
            have : vAt (versL h (ev h i).2.2.1) q = w := wr_one hw (by omega) p1 r4 p2.1 (by rw [hh, p2.2.2])
            exact tx_ne h (ev h i).2.2.1 q n hq n1 (by rw [this, n2])
          have hnm : n < m := src_mono h _ n m n1 m1 (by omega)
          exact over (n + 1) (by omega) (fun x hx => by unfold rdEdges; rw [hva]; exact List.mem_append.2 (.inr hx)) hl
/-- Where one is in a walk of steps at Snapshot: behind a whole step, or with an edge that isn't GOver to spare. -/
def atP (l : List Ed) (a x : Int) : Prop := ∃ n, 1 ≤ n ∧ Walk (stepsL 2 l) n a x
def atQ (l : List Ed) (a x : Int) : Prop := ∃ e ∈ l, e.1 ≠ 3 ∧ e.2.2.1 = x ∧ ∃ n, Walk (stepsL 2 l) n a e.2.1
theorem walk_one (l : List Ed) (s : Stp) (hs : s ∈ stepsL 2 l) {n : Nat} {a x y : Int} (hw : Walk (stepsL 2 l) n a x) (h1 : s.1 = x) (h2 : s.2.1 = y) : Walk (stepsL 2 l) (n + 1) a y := by
  have : Walk (stepsL 2 l) 1 x y := by rw [← h1, ← h2]; exact .cons s 0 _ hs (.nil _)
  exact hw.append this
theorem q_p {l : List Ed} {a x : Int} (h : atQ l a x) : atP l a x := by
  obtain ⟨e, he, h3, hx, n, hw⟩ := h
  exact ⟨n + 1, by omega, walk_one l (one1 e) (steps_one 2 l e he (.inr ⟨rfl, h3⟩)) hw rfl hx⟩
theorem q_over {l : List Ed} {a x : Int} (h : atQ l a x) (g : Ed) (hg : g ∈ l) (g3 : g.1 = 3) (hx : g.2.1 = x) : atP l a g.2.2.1 := by
  obtain ⟨e, he, h3, hx', n, hw⟩ := h
  exact ⟨n + 1, by omega, walk_one l (two2 e g) (steps_two l e g he hg h3 g3 (by rw [hx, hx'])) hw rfl rfl⟩
theorem walk_wayN {l : List Ed} {a x y : Int} {n : Nat} (hw : Walk (stepsL 2 l) n a x) (h : WayN l x y) : atQ l a y := by
  induction h using WayN.elim with
  | one e he h3 hx => exact ⟨e, he, h3, rfl, n, by rw [hx]; exact hw⟩
  | go e he h3 _ ih =>
    obtain ⟨m, _, hm⟩ := q_p ih
    exact ⟨e, he, h3, rfl, m, hm⟩
/-- A ring of what holds is, at Snapshot, a ring of steps. -/
theorem round_snap {h : List Ev} (hw : WF h) (hcl : clean h) : ∀ (r : List Ed) (e f : Ed) (a : Int), (∀ x ∈ e :: r, holdsL h x) → chainR 2 (e :: r) f → e.2.1 = a ∨ True → (e.1 ≠ 3 → ∃ n, Walk (stepsL 2 (edgesL h)) n a e.2.1) → (e.1 = 3 → atQ (edgesL h) a e.2.1) → (f.1 ≠ 3 → atP (edgesL h) a f.2.1) := by
  intro r
  induction r with
  | nil =>
    intro e f a hh hc _ hn h3 hf
    have he := hh e (List.mem_cons_self ..)
    have hr : e.2.2.1 = f.2.1 := hc.1
    rw [← hr]
    by_cases e3 : e.1 = 3
    · rcases follow_kinds hw hcl e he with hw1 | ⟨_, g, hg, g3, gf, hgo⟩
      · obtain ⟨n, _, hn'⟩ := q_p (h3 e3)
        exact q_p (walk_wayN hn' hw1)
      · have hp := q_over (h3 e3) g hg g3 gf
        rcases hgo with hgo | hgo
        · rw [← hgo]; exact hp
        · obtain ⟨n, _, hn'⟩ := hp
          exact q_p (walk_wayN hn' hgo)
    · obtain ⟨n, hn'⟩ := hn e3
      rcases follow_kinds hw hcl e he with hw1 | ⟨e3', _⟩
      · exact q_p (walk_wayN hn' hw1)
      · exact absurd e3' e3
  | cons e' r ih =>
    intro e f a hh hc _ hn h3 hf
    have he := hh e (List.mem_cons_self ..)
    have hr : e.2.2.1 = e'.2.1 := hc.1.1
    have hno : ¬ (e.1 = 3 ∧ e'.1 = 3) := fun hx => hc.1.2 ⟨rfl, hx.1, hx.2⟩
    refine ih e' f a (fun x hx => hh x (List.mem_cons_of_mem _ hx)) hc.2 (.inr trivial) (fun e3' => ?_) (fun e3' => ?_) hf
    · rw [← hr]
      by_cases e3 : e.1 = 3
      · rcases follow_kinds hw hcl e he with hw1 | ⟨_, g, hg, g3, gf, hgo⟩
        · obtain ⟨n, _, hn'⟩ := q_p (h3 e3)
          obtain ⟨m, _, hm⟩ := q_p (walk_wayN hn' hw1)
          exact ⟨m, hm⟩
        · have hp := q_over (h3 e3) g hg g3 gf
          rcases hgo with hgo | hgo
          · rw [← hgo]; obtain ⟨m, _, hm⟩ := hp; exact ⟨m, hm⟩
          · obtain ⟨n, _, hn'⟩ := hp
            obtain ⟨m, _, hm⟩ := q_p (walk_wayN hn' hgo)
            exact ⟨m, hm⟩
      · obtain ⟨n, hn'⟩ := hn e3
        rcases follow_kinds hw hcl e he with hw1 | ⟨e3'', _⟩
        · obtain ⟨m, _, hm⟩ := q_p (walk_wayN hn' hw1); exact ⟨m, hm⟩
        · exact absurd e3'' e3
    · rw [← hr]
      have e3 : e.1 ≠ 3 := fun hx => hno ⟨hx, e3'⟩
      obtain ⟨n, hn'⟩ := hn e3
      rcases follow_kinds hw hcl e he with hw1 | ⟨e3'', _⟩
      · exact walk_wayN hn' hw1
      · exact absurd e3'' e3
theorem way_walk {l : List Ed} {a b : Int} (h : Way l a b) : ∃ n, Walk (stepsL 1 l) n a b := by
  induction h using Way.elim with
  | here => exact ⟨0, .nil _⟩
  | go e he _ ih =>
    obtain ⟨n, hn⟩ := ih
    have : Walk (stepsL 1 l) 1 e.2.1 e.2.2.1 := .cons (one1 e) 0 _ (steps_one 1 l e he (.inl rfl)) (.nil _)
    exact ⟨n + 1, hn.append this⟩
theorem round_serial {h : List Ev} (hw : WF h) (hcl : clean h) : ∀ (r : List Ed) (e f : Ed) (a : Int), (∀ x ∈ e :: r, holdsL h x) → chainR 1 (e :: r) f → (∃ n, Walk (stepsL 1 (edgesL h)) n a e.2.1) → ∃ n, 1 ≤ n ∧ Walk (stepsL 1 (edgesL h)) n a f.2.1 := by
  have one : ∀ (e : Ed) (a : Int), holdsL h e → (∃ n, Walk (stepsL 1 (edgesL h)) n a e.2.1) → ∃ n, 1 ≤ n ∧ Walk (stepsL 1 (edgesL h)) n a e.2.2.1 := by
    intro e a he ⟨n, hn⟩
    obtain ⟨m, hm⟩ := way_walk (edges_follow hw hcl e he)
    have hne : e.2.1 ≠ e.2.2.1 := by obtain ⟨_, _, _, _, _, _, hne, _⟩ := he; exact hne
    have hm1 : 1 ≤ m := by
      rcases Nat.eq_zero_or_pos m with hz | hz
      · exfalso
        rw [hz] at hm
        apply hne
        generalize e.2.1 = x at hm
        generalize e.2.2.1 = y at hm
        cases hm
        rfl
      · exact hz
    exact ⟨n + m, by omega, hn.append hm⟩
  intro r
  induction r with
  | nil =>
    intro e f a hh hc hn
    have hr : e.2.2.1 = f.2.1 := hc.1
    rw [← hr]
    exact one e a (hh e (List.mem_cons_self ..)) hn
  | cons e' r ih =>
    intro e f a hh hc hn
    have hr : e.2.2.1 = e'.2.1 := hc.1.1
    obtain ⟨n, _, hn'⟩ := one e a (hh e (List.mem_cons_self ..)) hn
    exact ih e' f a (fun x hx => hh x (List.mem_cons_of_mem _ hx)) hc.2 ⟨n, by rw [← hr]; exact hn'⟩
/-- A ring of edges that hold shows a ring of steps. -/
theorem round_ring {h : List Ev} (hw : WF h) (hcl : clean h) (level : Int) (hlev : level = 1 ∨ level = 2) (l : List Ed) (hc : cyc level l) (hh : ∀ x ∈ l, holdsL h x) : ∃ n a, 1 ≤ n ∧ Walk (stepsL level (edgesL h)) n a a := by
  match l, hc with
  | e :: r, hc =>
    rcases hlev with rfl | rfl
    · obtain ⟨n, h1, h2⟩ := round_serial hw hcl r e e e.2.1 hh hc ⟨0, .nil _⟩
      exact ⟨n, _, h1, h2⟩
    · by_cases e3 : e.1 = 3
      · match r, hc, hh with
        | [], hc, hh => exact absurd ⟨rfl, e3, e3⟩ hc.2
        | e' :: r, hc, hh =>
          have hno : e'.1 ≠ 3 := fun hx => hc.1.2 ⟨rfl, e3, hx⟩
          have ht := cyc_turn 2 e (e' :: r) hc
          obtain ⟨n, h1, h2⟩ := round_snap hw hcl (r ++ [e]) e' e' e'.2.1 (fun x hx => hh x (by
            have : x ∈ e' :: r ++ [e] := hx
            rcases List.mem_append.1 this with hx | hx
            · exact List.mem_cons_of_mem _ hx
            · rw [List.mem_singleton] at hx; rw [hx]; exact List.mem_cons_self ..)) ht (.inr trivial) (fun _ => ⟨0, .nil _⟩) (fun hx => absurd hx hno) hno
          exact ⟨n, _, h1, h2⟩
      · obtain ⟨n, h1, h2⟩ := round_snap hw hcl r e e e.2.1 hh hc (.inr trivial) (fun _ => ⟨0, .nil _⟩) (fun hx => absurd hx e3) e3
        exact ⟨n, _, h1, h2⟩
end Go.Proofs.Ytpfpkpaodlmlaaa
