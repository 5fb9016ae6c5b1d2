/-
  Plain facts on numbers, texts and rows as bytes: no program in sight.
  Plain facts on rows of texts as bytes, and on what is taken from bytes: no program in sight.
  Events and their bytes, in lists: of no program.
  Histories in lists: places, ends, writes, versions, which are well formed: of no program.
  Tags, shapes and twins of histories, in lists: of no program.
  Shapes of other names, and how long a shape's names are: in lists.
  Passes in lists, over whatever sum with a key: of no program.
-/
namespace Go.Proofs.YtihggfkenhkglaaDoor.Lm

/-- How many bytes a number below 2^64 takes. -/
def cnt (v : Nat) : Nat :=
  if v = 0 then 0 else if v < 256 then 1 else if v < 65536 then 2 else if v < 16777216 then 3 else if v < 4294967296 then 4
  else if v < 1099511627776 then 5 else if v < 281474976710656 then 6 else if v < 72057594037927936 then 7 else 8

/-- The low k bytes of v, the highest first. -/
def low : Nat → Nat → List UInt8
  | 0, _ => []
  | k + 1, v => UInt8.ofNat (v / 256 ^ k) :: low k v

def numL (v : Nat) : List UInt8 := UInt8.ofNat (cnt v) :: low (cnt v) v

def val (l : List UInt8) : Nat := l.foldl (fun a b => 256 * a + b.toNat) 0

theorem low_length (k v : Nat) : (low k v).length = k := by
  induction k with
  | zero => rfl
  | succ k ih => simp [low, ih]

theorem foldl_val (l : List UInt8) (a : Nat) : l.foldl (fun a b => 256 * a + b.toNat) a = a * 256 ^ l.length + val l := by
  unfold val
  induction l generalizing a with
  | nil => simp
  | cons b l ih =>
    simp only [List.foldl_cons, List.length_cons]
    rw [ih, ih (256 * 0 + b.toNat)]
    rw [Nat.pow_succ]
    generalize 256 ^ l.length = p
    have : (256 * a + b.toNat) * p = a * (p * 256) + b.toNat * p := by
      rw [Nat.add_mul, Nat.mul_comm 256 a, Nat.mul_assoc, Nat.mul_comm 256 p]
    rw [this]; simp; omega

theorem val_cons (b : UInt8) (l : List UInt8) : val (b :: l) = b.toNat * 256 ^ l.length + val l := by
  rw [val, List.foldl_cons, foldl_val]; simp

theorem val_snoc (l : List UInt8) (b : UInt8) : val (l ++ [b]) = 256 * val l + b.toNat := by
  simp [val, List.foldl_append]

theorem val_lt (l : List UInt8) : val l < 256 ^ l.length := by
  induction l with
  | nil => simp [val]
  | cons b l ih =>
    rw [val_cons, List.length_cons, Nat.pow_succ]
    have hb : b.toNat < 256 := b.toNat_lt
    have : b.toNat * 256 ^ l.length ≤ 255 * 256 ^ l.length := Nat.mul_le_mul_right _ (by omega)
    omega

theorem val_low (k v : Nat) : val (low k v) = v % 256 ^ k := by
  induction k with
  | zero => simp [low, val, Nat.mod_one]
  | succ k ih =>
    rw [low, val_cons, low_length, ih]
    have h : (UInt8.ofNat (v / 256 ^ k)).toNat = v / 256 ^ k % 256 := by simp
    rw [h, Nat.pow_succ, Nat.mod_mul, Nat.mul_comm]; omega

theorem low_val (l : List UInt8) : low l.length (val l) = l := by
  induction l with
  | nil => rfl
  | cons b l ih =>
    have hlt := val_lt l
    rw [List.length_cons, low, val_cons]
    have hp : 0 < 256 ^ l.length := Nat.pow_pos (by omega)
    have h1 : (b.toNat * 256 ^ l.length + val l) / 256 ^ l.length = b.toNat := by
      rw [Nat.add_comm, Nat.add_mul_div_right _ _ hp, Nat.div_eq_of_lt hlt]; omega
    rw [h1]
    have h2 : ∀ k v w, v % 256 ^ k = w % 256 ^ k → low k v = low k w := by
      intro k
      induction k with
      | zero => intros; rfl
      | succ k ihk =>
        intro v w h
        have e1 : v / 256 ^ k % 256 = w / 256 ^ k % 256 := by
          rw [← Nat.mod_mul_right_div_self, ← Nat.mod_mul_right_div_self, ← Nat.pow_succ, h]
        have e2 : v % 256 ^ k = w % 256 ^ k := by
          have := congrArg (· % 256 ^ k) h
          simp only [Nat.pow_succ, Nat.mod_mul_right_mod] at this
          exact this
        rw [low, low, ihk _ _ e2]
        congr 1
        apply UInt8.toNat_inj.1
        simpa using e1
    rw [h2 l.length (b.toNat * 256 ^ l.length + val l) (val l) (by rw [Nat.mul_add_mod_self_right]), ih]
    congr 1
    simp

theorem cnt_le (v : Nat) : cnt v ≤ 8 := by unfold cnt; (repeat' split) <;> omega

theorem cnt_eq (v k : Nat) (hk : k ≤ 8) (h1 : k = 0 ∨ 256 ^ (k - 1) ≤ v) (h2 : v < 256 ^ k) : cnt v = k := by
  have hk' : k = 0 ∨ k = 1 ∨ k = 2 ∨ k = 3 ∨ k = 4 ∨ k = 5 ∨ k = 6 ∨ k = 7 ∨ k = 8 := by omega
  unfold cnt
  rcases hk' with rfl | rfl | rfl | rfl | rfl | rfl | rfl | rfl | rfl <;> simp at h1 h2 <;> (repeat' split) <;> omega

theorem cnt_bounds (v : Nat) (hv : v < 2 ^ 64) : v < 256 ^ cnt v ∧ (cnt v = 0 ∨ 256 ^ (cnt v - 1) ≤ v) := by
  have key : ∀ k, k ≤ 8 → (k = 0 ∨ 256 ^ (k - 1) ≤ v) → v < 256 ^ k → v < 256 ^ cnt v ∧ (cnt v = 0 ∨ 256 ^ (cnt v - 1) ≤ v) := by
    intro k hk h1 h2
    rw [cnt_eq v k hk h1 h2]; exact ⟨h2, h1⟩
  by_cases h0 : v < 1
  · exact key 0 (by omega) (.inl rfl) (by have e : (256 : Nat) ^ 0 = 1 := (by decide); omega)
  by_cases h1 : v < 256
  · exact key 1 (by omega) (.inr (by have e : (256 : Nat) ^ (1 - 1) = 1 := (by decide); omega)) (by have e : (256 : Nat) ^ 1 = 256 := (by decide); omega)
  by_cases h2 : v < 65536
  · exact key 2 (by omega) (.inr (by have e : (256 : Nat) ^ (2 - 1) = 256 := (by decide); omega)) (by have e : (256 : Nat) ^ 2 = 65536 := (by decide); omega)
  by_cases h3 : v < 16777216
  · exact key 3 (by omega) (.inr (by have e : (256 : Nat) ^ (3 - 1) = 65536 := (by decide); omega)) (by have e : (256 : Nat) ^ 3 = 16777216 := (by decide); omega)
  by_cases h4 : v < 4294967296
  · exact key 4 (by omega) (.inr (by have e : (256 : Nat) ^ (4 - 1) = 16777216 := (by decide); omega)) (by have e : (256 : Nat) ^ 4 = 4294967296 := (by decide); omega)
  by_cases h5 : v < 1099511627776
  · exact key 5 (by omega) (.inr (by have e : (256 : Nat) ^ (5 - 1) = 4294967296 := (by decide); omega)) (by have e : (256 : Nat) ^ 5 = 1099511627776 := (by decide); omega)
  by_cases h6 : v < 281474976710656
  · exact key 6 (by omega) (.inr (by have e : (256 : Nat) ^ (6 - 1) = 1099511627776 := (by decide); omega)) (by have e : (256 : Nat) ^ 6 = 281474976710656 := (by decide); omega)
  by_cases h7 : v < 72057594037927936
  · exact key 7 (by omega) (.inr (by have e : (256 : Nat) ^ (7 - 1) = 281474976710656 := (by decide); omega)) (by have e : (256 : Nat) ^ 7 = 72057594037927936 := (by decide); omega)
  exact key 8 (by omega) (.inr (by have e : (256 : Nat) ^ (8 - 1) = 72057594037927936 := (by decide); omega)) (by have e : (256 : Nat) ^ 8 = 2 ^ 64 := (by decide); omega)

theorem cnt_mono (a b : Nat) (hb : b < 2 ^ 64) (h : a ≤ b) : cnt a ≤ cnt b := by
  obtain ⟨h1, h2⟩ := cnt_bounds a (by omega)
  obtain ⟨h3, h4⟩ := cnt_bounds b hb
  rcases Nat.lt_or_ge (cnt b) (cnt a) with h' | h'
  · have : 256 ^ cnt b ≤ 256 ^ (cnt a - 1) := Nat.pow_le_pow_right (by omega) (by omega)
    omega
  · exact h'

/-- The count, as a loop meets it. -/
theorem cnt_of_loop (v k : Nat) (hv : v < 2 ^ 64) (h1 : k = 0 ∨ 0 < v / 256 ^ (k - 1)) (h2 : v / 256 ^ k = 0) : k = cnt v := by
  have hp : ∀ j, 0 < 256 ^ j := fun j => Nat.pow_pos (by omega)
  have h2' : v < 256 ^ k := by
    rcases Nat.lt_or_ge v (256 ^ k) with h | h
    · exact h
    · have := Nat.div_pos h (hp k); omega
  have h1' : k = 0 ∨ 256 ^ (k - 1) ≤ v := by
    rcases h1 with h | h
    · exact .inl h
    · right
      rcases Nat.lt_or_ge v (256 ^ (k - 1)) with h' | h'
      · rw [Nat.div_eq_of_lt h'] at h; omega
      · exact h'
  have hk : k ≤ 8 := by
    rcases h1' with h | h
    · omega
    · rcases Nat.lt_or_ge 8 k with h8 | h8
      · have : 256 ^ 8 ≤ 256 ^ (k - 1) := Nat.pow_le_pow_right (by omega) (by omega)
        have e : (256 : Nat) ^ 8 = 2 ^ 64 := by decide
        omega
      · exact h8
  exact (cnt_eq v k hk h1' h2').symm

theorem loop_le (v k : Nat) (hv : v < 2 ^ 64) (h : 0 < v / 256 ^ k) : k < 8 := by
  rcases Nat.lt_or_ge k 8 with h8 | h8
  · exact h8
  · have h1 : 256 ^ 8 ≤ 256 ^ k := Nat.pow_le_pow_right (by omega) h8
    have e : (256 : Nat) ^ 8 = 2 ^ 64 := by decide
    rw [Nat.div_eq_of_lt (by omega)] at h; omega

def takeNumL : List UInt8 → Nat × List UInt8 × Nat
  | [] => (0, [], 2)
  | n :: r => if 8 < n.toNat then (0, [], 3) else if r.length < n.toNat then (0, [], 2) else if 0 < n.toNat ∧ r.head? = some 0 then (0, [], 3)
    else (val (r.take n.toNat), r.drop n.toNat, 0)

theorem numL_length (v : Nat) : (numL v).length = cnt v + 1 := by simp [numL, low_length]

theorem ofNat_cnt (v : Nat) : (UInt8.ofNat (cnt v)).toNat = cnt v := by
  have := cnt_le v
  rw [UInt8.toNat_ofNat']; omega

theorem low_head (v : Nat) (hv : v < 2 ^ 64) (h : 0 < cnt v) : (low (cnt v) v).head? ≠ some 0 := by
  obtain ⟨h1, h2⟩ := cnt_bounds v hv
  cases hc : cnt v with
  | zero => omega
  | succ k =>
    rw [hc] at h1 h2
    simp only [low, List.head?_cons, ne_eq, Option.some.injEq]
    intro h0
    have := congrArg UInt8.toNat h0
    simp at this
    have hk : 256 ^ k ≤ v := by rcases h2 with h | h; omega; simpa using h
    have hp : 0 < 256 ^ k := Nat.pow_pos (by omega)
    have h3 := Nat.div_pos hk hp
    have h4 : v / 256 ^ k < 256 := by
      rw [Nat.div_lt_iff_lt_mul hp]; rw [Nat.pow_succ] at h1; omega
    omega

theorem take_num (v : Nat) (hv : v < 2 ^ 64) (more : List UInt8) : takeNumL (numL v ++ more) = (v, more, 0) := by
  have h8 := cnt_le v
  have hl := low_length (cnt v) v
  have hb := (cnt_bounds v hv).1
  rw [numL, List.cons_append, takeNumL, ofNat_cnt]
  rw [if_neg (by omega), if_neg (by simp [hl]), if_neg, List.take_append_of_le_length (by omega), List.drop_append_of_le_length (by omega),
    List.take_of_length_le (by omega), List.drop_of_length_le (by omega), val_low, Nat.mod_eq_of_lt hb]
  · simp
  · rintro ⟨h0, h⟩
    apply low_head v hv h0
    rw [← h]
    cases hc : low (cnt v) v with
    | nil => simp [hc] at hl; omega
    | cons a l => simp

theorem num_take (s : List UInt8) (y : Nat) (left : List UInt8) (h : takeNumL s = (y, left, 0)) : numL y ++ left = s ∧ y < 2 ^ 64 := by
  match s, h with
  | n :: r, h =>
    rw [takeNumL] at h
    by_cases h8 : 8 < n.toNat
    · rw [if_pos h8] at h; simp at h
    rw [if_neg h8] at h
    by_cases hl : r.length < n.toNat
    · rw [if_pos hl] at h; simp at h
    rw [if_neg hl] at h
    by_cases hh : 0 < n.toNat ∧ r.head? = some 0
    · rw [if_pos hh] at h; simp at h
    rw [if_neg hh] at h
    simp only [Prod.mk.injEq] at h
    obtain ⟨rfl, rfl, -⟩ := h
    have hlen : (r.take n.toNat).length = n.toNat := by simp; omega
    have hlt := val_lt (r.take n.toNat)
    rw [hlen] at hlt
    have hc : cnt (val (r.take n.toNat)) = n.toNat := by
      apply cnt_eq _ _ (by omega) ?_ hlt
      by_cases hn : n.toNat = 0
      · exact .inl hn
      · right
        cases hr : r.take n.toNat with
        | nil => rw [hr] at hlen; simp at hlen; omega
        | cons b l =>
          have hrh : r.head? = some b := by
            cases r with
            | nil => simp at hr
            | cons b' r' =>
              obtain ⟨m, hm⟩ := Nat.exists_eq_succ_of_ne_zero hn
              rw [hm, Nat.succ_eq_add_one, List.take_succ_cons] at hr
              simp at hr ⊢; exact hr.1
          have hb : b ≠ 0 := by
            intro hb; apply hh; rw [hrh, hb]; exact ⟨by omega, rfl⟩
          have hb' : 0 < b.toNat := by
            rcases Nat.eq_zero_or_pos b.toNat with h | h
            · exfalso; apply hb; apply UInt8.toNat_inj.1; simpa using h
            · exact h
          have hl' : l.length = n.toNat - 1 := by
            have := hlen; rw [hr] at this; simp at this; omega
          rw [val_cons, hl']
          have := Nat.le_mul_of_pos_left (256 ^ (n.toNat - 1)) hb'
          omega
    refine ⟨?_, ?_⟩
    · have e1 : low n.toNat (val (r.take n.toNat)) = r.take n.toNat := by
        have := low_val (r.take n.toNat); rwa [hlen] at this
      rw [numL, hc, e1, List.cons_append, List.take_append_drop]
      simp
    · have : 256 ^ n.toNat ≤ 256 ^ 8 := Nat.pow_le_pow_right (by omega) (by omega)
      have e : (256 : Nat) ^ 8 = 2 ^ 64 := by decide
      omega

theorem numL_inj (a b : Nat) (ha : a < 2 ^ 64) (hb : b < 2 ^ 64) : numL a = numL b ↔ a = b := by
  constructor
  · intro h
    have h1 := take_num a ha []
    rw [h, take_num b hb []] at h1
    simp at h1; exact h1.symm
  · rintro rfl; rfl

/-! ### Lengths, texts, rows -/
def lenL (n : Nat) : List UInt8 := if n ≤ 250 then [UInt8.ofNat n] else [251, UInt8.ofNat (n / 256), UInt8.ofNat (n % 256)]

/-- A length, what stands behind it, and the answer: whatever the bound. -/
def sizeL : List UInt8 → Nat × List UInt8 × Nat
  | [] => (0, [], 2)
  | n :: r => if n.toNat ≤ 250 then (n.toNat, r, 0) else if 251 < n.toNat then (0, [], 3) else
    match r with
    | a :: b :: r' => if 256 * a.toNat + b.toNat ≤ 250 then (0, [], 3) else (256 * a.toNat + b.toNat, r', 0)
    | _ => (0, [], 2)

/-- The same, at most so much. -/
def takeLenL (s : List UInt8) (most : Int) : Nat × List UInt8 × Nat :=
  if (sizeL s).2.2 ≠ 0 then (0, [], (sizeL s).2.2) else if most < (sizeL s).1 then (0, [], 4) else sizeL s

def textL (t : List UInt8) : List UInt8 × Nat := if 65535 < t.length then ([], 4) else (lenL t.length ++ t, 0)

def takeTextL (s : List UInt8) (most : Int) : List UInt8 × List UInt8 × Nat :=
  if (takeLenL s most).2.2 ≠ 0 then ([], [], (takeLenL s most).2.2)
  else if (takeLenL s most).2.1.length < (takeLenL s most).1 then ([], [], 2)
  else ((takeLenL s most).2.1.take (takeLenL s most).1, (takeLenL s most).2.1.drop (takeLenL s most).1, 0)

theorem size_len (n : Nat) (h : n ≤ 65535) (more : List UInt8) : sizeL (lenL n ++ more) = (n, more, 0) := by
  unfold lenL
  by_cases h1 : n ≤ 250
  · have e : (UInt8.ofNat n).toNat = n := by simp; omega
    rw [if_pos h1]
    simp only [List.cons_append, List.nil_append, sizeL]
    rw [if_pos (by omega), e]
  · have e1 : (UInt8.ofNat (n / 256)).toNat = n / 256 := by simp; omega
    have e2 : (UInt8.ofNat (n % 256)).toNat = n % 256 := by simp
    rw [if_neg h1]
    simp only [List.cons_append, List.nil_append, sizeL]
    rw [if_neg (by decide), if_neg (by decide), e1, e2, if_neg (by omega)]
    have : 256 * (n / 256) + n % 256 = n := by omega
    rw [this]

theorem takeLen_len (n : Nat) (h : n ≤ 65535) (most : Int) (hm : (n : Int) ≤ most) (more : List UInt8) : takeLenL (lenL n ++ more) most = (n, more, 0) := by
  simp only [takeLenL, size_len n h more]
  simp; omega

theorem takeText_text (t : List UInt8) (h : t.length ≤ 65535) (most : Int) (hm : (t.length : Int) ≤ most) (more : List UInt8) : takeTextL (lenL t.length ++ t ++ more) most = (t, more, 0) := by
  simp only [takeTextL, List.append_assoc, takeLen_len t.length h most hm]
  simp
/-- A row's texts, one behind the other. -/
def body : List (List UInt8) → List UInt8
  | [] => []
  | t :: r => lenL t.length ++ t ++ body r
def rowOk (ss : List (List UInt8)) : Bool := decide (ss.length ≤ 65535) && ss.all fun t => decide (t.length ≤ 65535)
def rowL (ss : List (List UInt8)) : List UInt8 × Nat := if rowOk ss = true then (lenL ss.length ++ body ss, 0) else ([], 4)

theorem body_append (a b : List (List UInt8)) : body (a ++ b) = body a ++ body b := by
  induction a with
  | nil => rfl
  | cons t a ih => simp [body, ih]
theorem body_snoc (a : List (List UInt8)) (t : List UInt8) : body (a ++ [t]) = body a ++ (lenL t.length ++ t) := by
  simp [body_append, body]
theorem lenL_le (n : Nat) : (lenL n).length ≤ 3 := by unfold lenL; split <;> simp
theorem lenL_pos (n : Nat) : 1 ≤ (lenL n).length := by unfold lenL; split <;> simp
theorem body_length (ss : List (List UInt8)) (h : ∀ t ∈ ss, t.length ≤ 65535) : (body ss).length ≤ ss.length * 65538 := by
  induction ss with
  | nil => simp [body]
  | cons t r ih =>
    have h1 := h t (by simp)
    have h2 := ih (fun x hx => h x (by simp [hx]))
    have h3 := lenL_le t.length
    simp [body]; omega
theorem rowOk_iff (ss : List (List UInt8)) : rowOk ss = true ↔ ss.length ≤ 65535 ∧ ∀ t ∈ ss, t.length ≤ 65535 := by
  simp [rowOk]
end Go.Proofs.YtihggfkenhkglaaDoor.Lm
namespace Go.Proofs.YtihggfkenhkglaaDoor.Lm
/-- n texts, one behind the other. -/
def takeN : Nat → List UInt8 → Int → List (List UInt8) × List UInt8 × Nat
  | 0, s, _ => ([], s, 0)
  | n + 1, s, most =>
    if (takeTextL s most).2.2 ≠ 0 then ([], [], (takeTextL s most).2.2)
    else if (takeN n (takeTextL s most).2.1 most).2.2 ≠ 0 then ([], [], (takeN n (takeTextL s most).2.1 most).2.2)
    else ((takeTextL s most).1 :: (takeN n (takeTextL s most).2.1 most).1, (takeN n (takeTextL s most).2.1 most).2.1, 0)
def takeRowL (s : List UInt8) (many most : Int) : List (List UInt8) × List UInt8 × Nat :=
  if (takeLenL s many).2.2 ≠ 0 then ([], [], (takeLenL s many).2.2) else takeN (takeLenL s many).1 (takeLenL s many).2.1 most
/-- What was taken ahead, and what is taken then. -/
def pre (l : List (List UInt8)) (x : List (List UInt8) × List UInt8 × Nat) : List (List UInt8) × List UInt8 × Nat :=
  if x.2.2 ≠ 0 then ([], [], x.2.2) else (l ++ x.1, x.2.1, 0)
theorem pre_nil (x : List (List UInt8) × List UInt8 × Nat) (h : x.2.2 ≠ 0 → x.1 = [] ∧ x.2.1 = []) : pre [] x = x := by
  obtain ⟨a, b, c⟩ := x
  unfold pre
  by_cases hc : c = 0
  · simp [hc]
  · have := h hc; simp at this; simp [hc, this]
theorem takeN_bad (n : Nat) (s : List UInt8) (most : Int) : (takeN n s most).2.2 ≠ 0 → (takeN n s most).1 = [] ∧ (takeN n s most).2.1 = [] := by
  cases n with
  | zero => simp [takeN]
  | succ n =>
    rw [takeN]
    split
    · simp
    · split
      · simp
      · simp
theorem pre_step_bad (l : List (List UInt8)) (n : Nat) (s : List UInt8) (most : Int) (h : (takeTextL s most).2.2 ≠ 0) : pre l (takeN (n + 1) s most) = ([], [], (takeTextL s most).2.2) := by
  rw [takeN, if_pos h, pre, if_pos h]
theorem pre_step_ok (l : List (List UInt8)) (n : Nat) (s : List UInt8) (most : Int) (h : (takeTextL s most).2.2 = 0) : pre l (takeN (n + 1) s most) = pre (l ++ [(takeTextL s most).1]) (takeN n (takeTextL s most).2.1 most) := by
  rw [takeN, if_neg (by omega)]
  by_cases h2 : (takeN n (takeTextL s most).2.1 most).2.2 = 0
  · rw [if_neg (by omega)]
    simp [pre, h2]
  · rw [if_pos h2]
    simp [pre, h2]
theorem takeN_body (ss : List (List UInt8)) (h : ∀ t ∈ ss, t.length ≤ 65535) (most : Int) (hm : 65535 ≤ most) (more : List UInt8) : takeN ss.length (body ss ++ more) most = (ss, more, 0) := by
  induction ss with
  | nil => simp [takeN, body]
  | cons t r ih =>
    have h1 := h t (by simp)
    have h2 := ih (fun x hx => h x (by simp [hx]))
    have h3 := takeText_text t h1 most (by omega) (body r ++ more)
    rw [List.length_cons, takeN, body, List.append_assoc, h3]
    simp [h2]
theorem takeRow_row (ss : List (List UInt8)) (h : rowOk ss = true) (more : List UInt8) : takeRowL (lenL ss.length ++ body ss ++ more) ss.length 65535 = (ss, more, 0) := by
  rw [rowOk_iff] at h
  unfold takeRowL
  rw [List.append_assoc, takeLen_len ss.length h.1 ss.length (Int.le_refl _)]
  simp [takeN_body ss h.2 65535 (Int.le_refl _) more]
theorem row_inj (a b : List (List UInt8)) (ha : rowOk a = true) (hb : rowOk b = true) : lenL a.length ++ body a = lenL b.length ++ body b ↔ a = b := by
  constructor
  · intro h
    have h1 := takeRow_row a ha []
    have h2 := takeRow_row b hb []
    simp only [List.append_nil] at h1 h2
    have e1 := size_len a.length ((rowOk_iff a).1 ha).1 (body a)
    have e2 := size_len b.length ((rowOk_iff b).1 hb).1 (body b)
    rw [h, e2] at e1
    simp only [Prod.mk.injEq] at e1
    rw [h, ← e1.1] at h1
    rw [h1] at h2
    simp only [Prod.mk.injEq] at h2
    exact h2.1
  · rintro rfl; rfl
/-! ### Of a row's bytes no beginning is one -/
theorem takeText_short (t : List UInt8) (h : t.length ≤ 65535) (c : Nat) (hc : c < (lenL t.length ++ t).length) (most : Int) (hm : 65535 ≤ most) : (takeTextL ((lenL t.length ++ t).take c) most).2.2 = 2 := by
  by_cases hc2 : (lenL t.length).length ≤ c
  · have e : (lenL t.length ++ t).take c = lenL t.length ++ t.take (c - (lenL t.length).length) := by
      rw [List.take_append, List.take_of_length_le hc2]
    rw [e]
    simp only [takeTextL, takeLen_len t.length h most (by omega)]
    simp only [List.length_append] at hc
    have : (t.take (c - (lenL t.length).length)).length < t.length := by simp; omega
    rw [if_neg (by simp), if_pos this]
  · have hsz : sizeL ((lenL t.length ++ t).take c) = (0, [], 2) := by
      rw [List.take_append_of_le_length (by omega)]
      unfold lenL at hc2 ⊢
      by_cases h1 : t.length ≤ 250
      · rw [if_pos h1] at hc2 ⊢
        have : c = 0 := by simp at hc2; exact hc2
        subst this; rfl
      · rw [if_neg h1] at hc2 ⊢
        have : c = 0 ∨ c = 1 ∨ c = 2 := by simp at hc2; omega
        rcases this with rfl | rfl | rfl
        · rfl
        · rfl
        · rfl
    simp [takeTextL, takeLenL, hsz]
theorem takeLen_short (n : Nat) (c : Nat) (hc : c < (lenL n).length) (most : Int) : takeLenL ((lenL n).take c) most = (0, [], 2) := by
  have hsz : sizeL ((lenL n).take c) = (0, [], 2) := by
    unfold lenL at hc ⊢
    by_cases h1 : n ≤ 250
    · rw [if_pos h1] at hc ⊢
      have : c = 0 := by simp at hc; exact hc
      subst this; rfl
    · rw [if_neg h1] at hc ⊢
      have : c = 0 ∨ c = 1 ∨ c = 2 := by simp at hc; omega
      rcases this with rfl | rfl | rfl
      · rfl
      · rfl
      · rfl
  simp [takeLenL, hsz]
theorem takeN_short (ss : List (List UInt8)) (h : ∀ t ∈ ss, t.length ≤ 65535) (c : Nat) (hc : c < (body ss).length) (most : Int) (hm : 65535 ≤ most) : (takeN ss.length ((body ss).take c) most).2.2 = 2 := by
  induction ss generalizing c with
  | nil => simp [body] at hc
  | cons t r ih =>
    have h1 := h t (by simp)
    rw [List.length_cons, takeN, body]
    by_cases hc2 : c < (lenL t.length ++ t).length
    · rw [List.take_append_of_le_length (by omega)]
      have h2 := takeText_short t h1 c hc2 most hm
      simp [h2]
    · have e : (lenL t.length ++ t ++ body r).take c = lenL t.length ++ t ++ (body r).take (c - (lenL t.length ++ t).length) := by
        rw [List.take_append, List.take_of_length_le (by omega)]
      rw [e, takeText_text t h1 most (by omega)]
      have hc' : c - (lenL t.length ++ t).length < (body r).length := by
        rw [body] at hc; simp only [List.length_append] at hc hc2 ⊢; omega
      have h3 := ih (fun x hx => h x (by simp [hx])) _ hc'
      simp only [h3]
      simp
theorem takeRow_short (ss : List (List UInt8)) (h : rowOk ss = true) (c : Nat) (hc : c < (lenL ss.length ++ body ss).length) : (takeRowL ((lenL ss.length ++ body ss).take c) ss.length 65535).2.2 = 2 := by
  rw [rowOk_iff] at h
  unfold takeRowL
  by_cases hc2 : c < (lenL ss.length).length
  · rw [List.take_append_of_le_length (by omega), takeLen_short ss.length c hc2]
    simp
  · have e : (lenL ss.length ++ body ss).take c = lenL ss.length ++ (body ss).take (c - (lenL ss.length).length) := by
      rw [List.take_append, List.take_of_length_le (by omega)]
    rw [e, takeLen_len ss.length h.1 ss.length (Int.le_refl _)]
    simp only [List.length_append] at hc
    have := takeN_short ss h.2 (c - (lenL ss.length).length) (by omega) 65535 (Int.le_refl _)
    simp [this]
theorem takeNum_short (v : Nat) (c : Nat) (hc : c < (numL v).length) : (takeNumL ((numL v).take c)).2.2 = 2 := by
  rw [numL_length] at hc
  unfold numL
  cases c with
  | zero => rfl
  | succ c =>
    rw [List.take_succ_cons, takeNumL, ofNat_cnt]
    have h8 := cnt_le v
    have hl : ((low (cnt v) v).take c).length < cnt v := by simp [low_length]; omega
    rw [if_neg (by omega), if_pos hl]
end Go.Proofs.YtihggfkenhkglaaDoor.Lm
namespace Go.Proofs.YtihggfkenhkglaaDoor
set_option maxRecDepth 100000
theorem sizeL_bd (l : List UInt8) : (Lm.sizeL l).1 ≤ 65535 ∧ (Lm.sizeL l).2.1.length ≤ l.length := by
  unfold Lm.sizeL
  split
  · simp
  · rename_i n r
    have := n.toNat_lt
    split
    · simp; omega
    · split
      · simp
      · split
        · rename_i a b r'
          have := a.toNat_lt
          have := b.toNat_lt
          split <;> simp <;> omega
        · simp
theorem takeLenL_bd (l : List UInt8) (most : Int) : (Lm.takeLenL l most).1 ≤ 65535 ∧ (Lm.takeLenL l most).2.1.length ≤ l.length := by
  have := sizeL_bd l
  unfold Lm.takeLenL
  split
  · simp
  · split
    · simp
    · exact this
theorem takeTextL_bd (l : List UInt8) (most : Int) : (Lm.takeTextL l most).1.length ≤ 65535 ∧ (Lm.takeTextL l most).2.1.length ≤ l.length := by
  have := takeLenL_bd l most
  unfold Lm.takeTextL
  split
  · simp
  · split
    · simp
    · simp; omega
end Go.Proofs.YtihggfkenhkglaaDoor
namespace Go.Proofs.YtihggfkenhkglaaDoor
set_option maxRecDepth 100000
set_option linter.unusedVariables false
/-- An event: kind, transaction, key, value. -/
abbrev Ev := Int × Int × List UInt8 × List UInt8
abbrev keyedE (k : Int) : Prop := k = 2 ∨ k = 3
abbrev mayE (x : Ev) : Prop := (1 ≤ x.1 ∧ x.1 ≤ 5 ∧ 1 ≤ x.2.1 ∧ x.2.1 ≤ 32) ∧ (if keyedE x.1 then (1 ≤ x.2.2.1.length ∧ x.2.2.1.length ≤ 32 ∧ x.2.2.2.length ≤ 32 ∧ (x.1 = 2 ∨ 1 ≤ x.2.2.2.length)) else (x.2.2.1 = [] ∧ x.2.2.2 = []))
def txtE (t : List UInt8) : List UInt8 := Lm.lenL t.length ++ t
/-- The bytes of an event that may be. -/
def bytE (x : Ev) : List UInt8 := UInt8.ofNat x.1.toNat :: UInt8.ofNat x.2.1.toNat :: (if keyedE x.1 then txtE x.2.2.1 ++ txtE x.2.2.2 else [])
def bytesE (x : Ev) : List UInt8 × Nat := if mayE x then (bytE x, 0) else ([], 1)
/-- The event of bytes. -/
def takeE (s : List UInt8) : Option Ev :=
  match s with
  | a :: b :: r =>
    if keyedE (a.toNat : Int) then
      if (Lm.takeTextL r 32).2.2 ≠ 0 then none
      else if (Lm.takeTextL (Lm.takeTextL r 32).2.1 32).2.2 ≠ 0 ∨ 0 < (Lm.takeTextL (Lm.takeTextL r 32).2.1 32).2.1.length then none
      else if mayE ((a.toNat : Int), (b.toNat : Int), (Lm.takeTextL r 32).1, (Lm.takeTextL (Lm.takeTextL r 32).2.1 32).1) then some ((a.toNat : Int), (b.toNat : Int), (Lm.takeTextL r 32).1, (Lm.takeTextL (Lm.takeTextL r 32).2.1 32).1) else none
    else if 0 < r.length ∨ ¬ mayE ((a.toNat : Int), (b.toNat : Int), [], []) then none else some ((a.toNat : Int), (b.toNat : Int), [], [])
  | _ => none
theorem size_take (s : List UInt8) (n : Nat) (r : List UInt8) (h : Lm.sizeL s = (n, r, 0)) : Lm.lenL n ++ r = s ∧ n ≤ 65535 := by
  unfold Lm.sizeL at h
  match s, h with
  | [], h => simp at h
  | c :: q, h =>
    simp only at h
    by_cases h1 : c.toNat ≤ 250
    · rw [if_pos h1] at h
      simp only [Prod.mk.injEq] at h
      obtain ⟨rfl, rfl, _⟩ := h
      unfold Lm.lenL
      rw [if_pos h1]
      exact ⟨by simp, by omega⟩
    · rw [if_neg h1] at h
      by_cases h2 : 251 < c.toNat
      · rw [if_pos h2] at h; simp at h
      · rw [if_neg h2] at h
        have hc : c = 251 := by apply UInt8.toNat_inj.1; show c.toNat = 251; omega
        match q, h with
        | [], h => simp at h
        | [_], h => simp at h
        | a :: b :: q', h =>
          simp only at h
          have ha := a.toNat_lt
          have hb := b.toNat_lt
          by_cases h3 : 256 * a.toNat + b.toNat ≤ 250
          · rw [if_pos h3] at h; simp at h
          · rw [if_neg h3] at h
            simp only [Prod.mk.injEq] at h
            obtain ⟨rfl, rfl, _⟩ := h
            unfold Lm.lenL
            rw [if_neg h3, hc]
            refine ⟨?_, by omega⟩
            have e1 : UInt8.ofNat ((256 * a.toNat + b.toNat) / 256) = a := by apply UInt8.toNat_inj.1; rw [UInt8.toNat_ofNat']; omega
            have e2 : UInt8.ofNat ((256 * a.toNat + b.toNat) % 256) = b := by apply UInt8.toNat_inj.1; rw [UInt8.toNat_ofNat']; omega
            rw [e1, e2]; rfl
theorem text_take (s t r : List UInt8) (most : Int) (h : Lm.takeTextL s most = (t, r, 0)) : Lm.lenL t.length ++ t ++ r = s ∧ t.length ≤ 65535 ∧ (t.length : Int) ≤ most := by
  unfold Lm.takeTextL at h
  by_cases h1 : (Lm.takeLenL s most).2.2 ≠ 0
  · rw [if_pos h1] at h; simp only [Prod.mk.injEq] at h; exact absurd h.2.2 h1
  · rw [if_neg h1] at h
    by_cases h2 : (Lm.takeLenL s most).2.1.length < (Lm.takeLenL s most).1
    · rw [if_pos h2] at h; simp at h
    · rw [if_neg h2] at h
      simp only [Prod.mk.injEq] at h
      obtain ⟨rfl, rfl, _⟩ := h
      have hL : Lm.takeLenL s most = Lm.sizeL s ∧ (Lm.sizeL s).2.2 = 0 ∧ ((Lm.sizeL s).1 : Int) ≤ most := by
        unfold Lm.takeLenL at h1 ⊢
        by_cases h3 : (Lm.sizeL s).2.2 ≠ 0
        · rw [if_pos h3] at h1; simp at h1; exact absurd h1 h3
        · rw [if_neg h3] at h1 ⊢
          by_cases h4 : most < (Lm.sizeL s).1
          · rw [if_pos h4] at h1; simp at h1
          · rw [if_neg h4]; exact ⟨rfl, by omega, by omega⟩
      rw [hL.1] at h2 ⊢
      have hz := size_take s (Lm.sizeL s).1 (Lm.sizeL s).2.1 (by rw [← hL.2.1])
      have hn : ((Lm.sizeL s).2.1.take (Lm.sizeL s).1).length = (Lm.sizeL s).1 := by rw [List.length_take]; omega
      rw [hn, List.append_assoc, List.take_append_drop]
      exact ⟨hz.1, hz.2, hL.2.2⟩
theorem txt_taken (t : List UInt8) (h : t.length ≤ 32) (r : List UInt8) : Lm.takeTextL (txtE t ++ r) 32 = (t, r, 0) := Lm.takeText_text t (by omega) 32 (by omega) r
theorem may_bytes (x : Ev) (h : mayE x) : (UInt8.ofNat x.1.toNat).toNat = x.1.toNat ∧ (UInt8.ofNat x.2.1.toNat).toNat = x.2.1.toNat ∧ ((x.1.toNat : Nat) : Int) = x.1 ∧ ((x.2.1.toNat : Nat) : Int) = x.2.1 := by
  obtain ⟨⟨h1, h2, h3, h4⟩, _⟩ := h
  refine ⟨?_, ?_, by omega, by omega⟩
  · simp; omega
  · simp; omega
/-- What was written is taken, with nothing behind. -/
theorem take_byt (x : Ev) (h : mayE x) (m : List UInt8) : takeE (bytE x ++ m) = if m = [] then some x else none := by
  obtain ⟨e1, e2, e3, e4⟩ := may_bytes x h
  have hx : x = (x.1, x.2.1, x.2.2.1, x.2.2.2) := rfl
  unfold bytE takeE
  by_cases hk : keyedE x.1
  · rw [if_pos hk]
    obtain ⟨h0, h5⟩ := h
    have h5' := h5
    rw [if_pos hk] at h5
    obtain ⟨k1, k2, k3, k4⟩ := h5
    simp only [List.cons_append, e1, e2, e3, e4]
    rw [if_pos hk, List.append_assoc, txt_taken x.2.2.1 k2]
    simp only
    rw [if_neg (by simp), txt_taken x.2.2.2 k3 m]
    simp only
    by_cases hm : m = []
    · subst hm
      rw [if_neg (by simp), if_pos ⟨h0, h5'⟩, if_pos rfl]
    · rw [if_pos (Or.inr (List.length_pos_iff.2 hm)), if_neg hm]
  · rw [if_neg hk]
    obtain ⟨h0, h5⟩ := h
    have h5' := h5
    rw [if_neg hk] at h5
    simp only [List.cons_append, List.nil_append, e1, e2, e3, e4]
    rw [if_neg hk]
    have ex : (x.1, x.2.1, ([] : List UInt8), ([] : List UInt8)) = x := by rw [hx]; simp only [h5.1, h5.2]
    by_cases hm : m = []
    · subst hm
      rw [if_neg (by intro hh; rcases hh with hh | hh; simp at hh; exact hh (by rw [ex]; exact ⟨h0, h5'⟩)), if_pos rfl, ex]
    · rw [if_pos (Or.inl (List.length_pos_iff.2 hm)), if_neg hm]
/-- What is taken may be, and is written by the same bytes. -/
theorem byt_take (s : List UInt8) (x : Ev) (h : takeE s = some x) : mayE x ∧ bytE x = s := by
  unfold takeE at h
  match s, h with
  | [], h => cases h
  | [_], h => cases h
  | a :: b :: r, h =>
    simp only at h
    by_cases hk : keyedE (a.toNat : Int)
    · rw [if_pos hk] at h
      by_cases h1 : (Lm.takeTextL r 32).2.2 ≠ 0
      · rw [if_pos h1] at h; cases h
      · rw [if_neg h1] at h
        by_cases h2 : (Lm.takeTextL (Lm.takeTextL r 32).2.1 32).2.2 ≠ 0 ∨ 0 < (Lm.takeTextL (Lm.takeTextL r 32).2.1 32).2.1.length
        · rw [if_pos h2] at h; cases h
        · rw [if_neg h2] at h
          by_cases h3 : mayE ((a.toNat : Int), (b.toNat : Int), (Lm.takeTextL r 32).1, (Lm.takeTextL (Lm.takeTextL r 32).2.1 32).1)
          · rw [if_pos h3] at h
            cases h
            refine ⟨h3, ?_⟩
            have t1 := text_take r (Lm.takeTextL r 32).1 (Lm.takeTextL r 32).2.1 32 (by rw [show (0 : Nat) = (Lm.takeTextL r 32).2.2 by omega])
            have t2 := text_take (Lm.takeTextL r 32).2.1 (Lm.takeTextL (Lm.takeTextL r 32).2.1 32).1 (Lm.takeTextL (Lm.takeTextL r 32).2.1 32).2.1 32 (by rw [show (0 : Nat) = (Lm.takeTextL (Lm.takeTextL r 32).2.1 32).2.2 by omega])
            have t3 : (Lm.takeTextL (Lm.takeTextL r 32).2.1 32).2.1 = [] := List.length_eq_zero_iff.1 (by omega)
            rw [t3, List.append_nil] at t2
            unfold bytE
            simp only
            rw [if_pos hk]
            have ea : UInt8.ofNat ((a.toNat : Int).toNat) = a := by simp
            have eb : UInt8.ofNat ((b.toNat : Int).toNat) = b := by simp
            rw [ea, eb]
            unfold txtE
            rw [t2.1, t1.1]
          · rw [if_neg h3] at h; cases h
    · rw [if_neg hk] at h
      by_cases h1 : 0 < r.length ∨ ¬ mayE ((a.toNat : Int), (b.toNat : Int), [], [])
      · rw [if_pos h1] at h; cases h
      · rw [if_neg h1] at h
        cases h
        have hm : mayE ((a.toNat : Int), (b.toNat : Int), [], []) := Classical.byContradiction fun hh => h1 (Or.inr hh)
        refine ⟨hm, ?_⟩
        have hr : r = [] := List.length_eq_zero_iff.1 (by omega)
        unfold bytE
        simp only
        rw [if_neg hk, hr]
        have ea : UInt8.ofNat ((a.toNat : Int).toNat) = a := by simp
        have eb : UInt8.ofNat ((b.toNat : Int).toNat) = b := by simp
        rw [ea, eb]
theorem byt_inj (x y : Ev) (hx : mayE x) (hy : mayE y) (h : bytE x = bytE y) : x = y := by
  have h1 := take_byt x hx []
  have h2 := take_byt y hy []
  rw [List.append_nil, if_pos rfl] at h1 h2
  rw [h, h2] at h1
  exact (Option.some.inj h1).symm
/-- Of what was written no beginning is taken. -/
theorem take_cut (x : Ev) (hx : mayE x) (c : Nat) (hc : c < (bytE x).length) : takeE ((bytE x).take c) = none := by
  cases hy : takeE ((bytE x).take c) with
  | none => rfl
  | some y =>
    obtain ⟨my, by'⟩ := byt_take _ y hy
    exfalso
    have h1 := take_byt y my ((bytE x).drop c)
    rw [by', List.take_append_drop] at h1
    have h2 := take_byt x hx []
    rw [List.append_nil, if_pos rfl] at h2
    rw [if_neg (by intro h; have := congrArg List.length h; rw [List.length_drop] at this; simp at this; omega)] at h1
    rw [h1] at h2
    cases h2
end Go.Proofs.YtihggfkenhkglaaDoor
namespace Go.Proofs.YtihggfkenhkglaaDoor
set_option maxRecDepth 100000
set_option linter.unusedVariables false
/-- The first number below n of which p says so; the last one. -/
def fi (p : Nat → Bool) (n : Nat) : Option Nat := (List.range n).find? p
def la (p : Nat → Bool) : Nat → Option Nat
  | 0 => none
  | n + 1 => if p n = true then some n else la p n
theorem fi_zero (p : Nat → Bool) : fi p 0 = none := rfl
theorem fi_succ (p : Nat → Bool) (n : Nat) : fi p (n + 1) = (fi p n).or (if p n = true then some n else none) := by
  unfold fi
  rw [List.range_succ, List.find?_append]
  congr 1
  by_cases h : p n = true
  · rw [if_pos h, List.find?_cons_of_pos h]
  · rw [if_neg h, List.find?_cons_of_neg h]; rfl
theorem fi_none (p : Nat → Bool) (n : Nat) : fi p n = none ↔ ∀ i, i < n → p i = false := by
  unfold fi
  rw [List.find?_eq_none]
  constructor
  · intro h i hi
    have := h i (List.mem_range.2 hi)
    simpa using this
  · intro h i hi
    have := h i (List.mem_range.1 hi)
    simp [this]
theorem fi_some (p : Nat → Bool) : ∀ (n i : Nat), fi p n = some i ↔ i < n ∧ p i = true ∧ ∀ j, j < i → p j = false
  | 0, i => by rw [fi_zero]; constructor; intro h; cases h; intro h; omega
  | n + 1, i => by
    rw [fi_succ]
    cases hf : fi p n with
    | none =>
      have hn := (fi_none p n).1 hf
      rw [Option.none_or]
      by_cases h : p n = true
      · rw [if_pos h]
        constructor
        · intro e; cases e; exact ⟨by omega, h, hn⟩
        · intro ⟨h1, h2, h3⟩
          rcases Nat.lt_or_ge i n with hi | hi
          · have := hn i hi; rw [h2] at this; cases this
          · rw [show i = n by omega]
      · rw [if_neg h]
        constructor
        · intro e; cases e
        · intro ⟨h1, h2, h3⟩
          rcases Nat.lt_or_ge i n with hi | hi
          · have := hn i hi; rw [h2] at this; cases this
          · rw [show i = n by omega] at h2; exact absurd h2 h
    | some k =>
      have hk := (fi_some p n k).1 hf
      rw [Option.some_or]
      constructor
      · intro e; cases e; exact ⟨by omega, hk.2.1, hk.2.2⟩
      · intro ⟨h1, h2, h3⟩
        rcases Nat.lt_trichotomy i k with hi | hi | hi
        · have := hk.2.2 i hi; rw [h2] at this; cases this
        · rw [hi]
        · have := h3 k hi; rw [hk.2.1] at this; cases this
theorem fi_congr {p q : Nat → Bool} {n : Nat} (h : ∀ i, i < n → p i = q i) : fi p n = fi q n := by
  cases hf : fi q n with
  | none => rw [fi_none] at hf ⊢; intro i hi; rw [h i hi]; exact hf i hi
  | some k =>
    rw [fi_some] at hf ⊢
    exact ⟨hf.1, by rw [h k hf.1]; exact hf.2.1, fun j hj => by rw [h j (by omega)]; exact hf.2.2 j hj⟩
theorem la_some (p : Nat → Bool) : ∀ (n i : Nat), la p n = some i ↔ i < n ∧ p i = true ∧ ∀ j, i < j → j < n → p j = false
  | 0, i => by rw [la]; constructor; intro h; cases h; intro h; omega
  | n + 1, i => by
    rw [la]
    by_cases h : p n = true
    · rw [if_pos h]
      constructor
      · intro e; cases e; exact ⟨by omega, h, fun j h1 h2 => by omega⟩
      · intro ⟨h1, h2, h3⟩
        rcases Nat.lt_or_ge i n with hi | hi
        · have := h3 n hi (by omega); rw [h] at this; cases this
        · rw [show i = n by omega]
    · rw [if_neg h, la_some p n i]
      constructor
      · intro ⟨h1, h2, h3⟩
        refine ⟨by omega, h2, fun j hj hn => ?_⟩
        rcases Nat.lt_or_ge j n with hjn | hjn
        · exact h3 j hj hjn
        · rw [show j = n by omega]; simpa using h
      · intro ⟨h1, h2, h3⟩
        rcases Nat.lt_or_ge i n with hi | hi
        · exact ⟨hi, h2, fun j hj hn => h3 j hj (by omega)⟩
        · rw [show i = n by omega] at h2; exact absurd h2 h
theorem la_none (p : Nat → Bool) : ∀ (n : Nat), la p n = none ↔ ∀ i, i < n → p i = false
  | 0 => by rw [la]; exact ⟨fun _ i hi => by omega, fun _ => rfl⟩
  | n + 1 => by
    rw [la]
    by_cases h : p n = true
    · rw [if_pos h]
      constructor
      · intro e; cases e
      · intro hh; have := hh n (by omega); rw [h] at this; cases this
    · rw [if_neg h, la_none p n]
      constructor
      · intro hh i hi
        rcases Nat.lt_or_ge i n with hin | hin
        · exact hh i hin
        · rw [show i = n by omega]; simpa using h
      · intro hh i hi; exact hh i (by omega)
def oI : Option Nat → Int
  | none => -1
  | some i => (i : Int)
/-- The event at a place. -/
def ev (h : List Ev) (i : Nat) : Ev := h.getD i (0, 0, [], [])
theorem ev_get (h : List Ev) (i : Nat) (hi : i < h.length) : ev h i = h[i] := by unfold ev; rw [List.getD_eq_getElem?_getD, List.getElem?_eq_getElem hi]; rfl
theorem ev_left (a b : List Ev) (i : Nat) (hi : i < a.length) : ev (a ++ b) i = ev a i := by
  rw [ev_get _ _ (by rw [List.length_append]; omega), ev_get _ _ hi, List.getElem_append_left hi]
theorem ev_right (a b : List Ev) (i : Nat) (hi : i < b.length) : ev (a ++ b) (a.length + i) = ev b i := by
  rw [ev_get _ _ (by rw [List.length_append]; omega), ev_get _ _ hi, List.getElem_append_right (by omega)]
  congr 1; omega
theorem ev_take (h : List Ev) (n i : Nat) (hi : i < n) (hn : n ≤ h.length) : ev (h.take n) i = ev h i := by
  rw [ev_get _ _ (by rw [List.length_take]; omega), ev_get _ _ (by omega), List.getElem_take]
def isEnd (h : List Ev) (t : Int) (i : Nat) : Bool := decide ((ev h i).2.1 = t ∧ ((ev h i).1 = 4 ∨ (ev h i).1 = 5))
def endL (h : List Ev) (t : Int) (n : Nat) : Option Nat := fi (isEnd h t) n
def ofTxn (h : List Ev) (t : Int) (i : Nat) : Bool := decide ((ev h i).2.1 = t)
def fstL (h : List Ev) (t : Int) (n : Nat) : Option Nat := fi (ofTxn h t) n
def isWr (h : List Ev) (key val : List UInt8) (i : Nat) : Bool := decide ((ev h i).1 = 3 ∧ (ev h i).2.2.1 = key ∧ (ev h i).2.2.2 = val)
def writerL (h : List Ev) (key val : List UInt8) : Option Nat := fi (isWr h key val) h.length
def isWrT (h : List Ev) (t : Int) (key : List UInt8) (i : Nat) : Bool := decide ((ev h i).1 = 3 ∧ (ev h i).2.1 = t ∧ (ev h i).2.2.1 = key)
def lastN (h : List Ev) (t : Int) (key : List UInt8) (n : Nat) : Option Nat := la (isWrT h t key) n
def lastL (h : List Ev) (t : Int) (key : List UInt8) (before : Int) : Option Nat := lastN h t key (min h.length before.toNat)
def sameVal (h : List Ev) (v : List UInt8) (i : Nat) : Bool := decide ((ev h i).1 = 3 ∧ (ev h i).2.2.2 = v)
/-- What is wrong with the event at a place (0: nothing). -/
def formStep (h : List Ev) (i : Nat) : Nat :=
  if ¬ mayE (ev h i) then 1
  else if (ev h i).1 = 1 then (if fstL h (ev h i).2.1 i = none then 0 else 8)
  else if fstL h (ev h i).2.1 i = none then 7
  else if endL h (ev h i).2.1 i ≠ none then 9
  else if (ev h i).1 = 3 ∧ fi (sameVal h (ev h i).2.2.2) i ≠ none then 8
  else if (ev h i).1 = 2 ∧ (ev h i).2.2.2 ≠ [] ∧ writerL h (ev h i).2.2.1 (ev h i).2.2.2 = none then 7
  else 0
def wrongAt (h : List Ev) (i : Nat) : Bool := decide (formStep h i ≠ 0)
def openAt (h : List Ev) (i : Nat) : Bool := decide (endL h (ev h i).2.1 h.length = none)
def formedL (h : List Ev) : Nat × Nat :=
  if 256 < h.length then (0, 4) else
  match fi (wrongAt h) h.length with
  | some i => (i, formStep h i)
  | none => if fi (openAt h) h.length = none then (h.length, 0) else (h.length, 9)
/-- Well formed. -/
def WF (h : List Ev) : Prop := h.length ≤ 256 ∧ (∀ i, i < h.length → formStep h i = 0) ∧ ∀ i, i < h.length → endL h (ev h i).2.1 h.length ≠ none
theorem formed_ok (h : List Ev) : (formedL h).2 = 0 ↔ WF h := by
  unfold formedL WF
  by_cases h1 : 256 < h.length
  · rw [if_pos h1]
    constructor
    · intro e; cases e
    · intro e; omega
  · rw [if_neg h1]
    cases hf : fi (wrongAt h) h.length with
    | some i =>
      have hi := (fi_some _ _ _).1 hf
      have hw := of_decide_eq_true hi.2.1
      constructor
      · intro e; exact absurd e hw
      · intro e; exact absurd (e.2.1 i hi.1) hw
    | none =>
      have hn := (fi_none _ _).1 hf
      have hz : ∀ i, i < h.length → formStep h i = 0 := fun i hi => by
        have := of_decide_eq_false (hn i hi); omega
      simp only
      by_cases ho : fi (openAt h) h.length = none
      · rw [if_pos ho]
        have hoo := (fi_none _ _).1 ho
        constructor
        · intro _
          exact ⟨by omega, hz, fun i hi => of_decide_eq_false (hoo i hi)⟩
        · intro _; rfl
      · rw [if_neg ho]
        constructor
        · intro e; cases e
        · intro e
          exfalso
          apply ho
          rw [fi_none]
          intro i hi
          exact decide_eq_false (e.2.2 i hi)
theorem formed_wf (h : List Ev) (hw : WF h) : formedL h = (h.length, 0) := by
  have h2 := (formed_ok h).2 hw
  unfold formedL at h2 ⊢
  rw [if_neg (by have := hw.1; omega)] at h2 ⊢
  have hf : fi (wrongAt h) h.length = none := by
    rw [fi_none]; intro i hi; exact decide_eq_false (by rw [hw.2.1 i hi]; simp)
  rw [hf] at h2 ⊢
  simp only at h2 ⊢
  by_cases ho : fi (openAt h) h.length = none
  · rw [if_pos ho]
  · rw [if_neg ho] at h2; cases h2
theorem formStep_zero (h : List Ev) (i : Nat) : formStep h i = 0 ↔ mayE (ev h i) ∧ ((ev h i).1 = 1 → fstL h (ev h i).2.1 i = none) ∧ ((ev h i).1 ≠ 1 → fstL h (ev h i).2.1 i ≠ none ∧ endL h (ev h i).2.1 i = none ∧ ((ev h i).1 = 3 → fi (sameVal h (ev h i).2.2.2) i = none) ∧ ((ev h i).1 = 2 → (ev h i).2.2.2 ≠ [] → writerL h (ev h i).2.2.1 (ev h i).2.2.2 ≠ none)) := by
  unfold formStep
  by_cases hm : mayE (ev h i)
  · rw [if_neg (fun hh => hh hm)]
    by_cases h1 : (ev h i).1 = 1
    · rw [if_pos h1]
      by_cases hf : fstL h (ev h i).2.1 i = none
      · rw [if_pos hf]; exact ⟨fun _ => ⟨hm, fun _ => hf, fun hh => absurd h1 hh⟩, fun _ => rfl⟩
      · rw [if_neg hf]; exact ⟨fun e => (by cases e), fun e => absurd (e.2.1 h1) hf⟩
    · rw [if_neg h1]
      by_cases hf : fstL h (ev h i).2.1 i = none
      · rw [if_pos hf]; exact ⟨fun e => (by cases e), fun e => absurd hf (e.2.2 h1).1⟩
      · rw [if_neg hf]
        by_cases he : endL h (ev h i).2.1 i = none
        · rw [if_neg (fun hh => hh he)]
          by_cases h3 : (ev h i).1 = 3 ∧ fi (sameVal h (ev h i).2.2.2) i ≠ none
          · rw [if_pos h3]; exact ⟨fun e => (by cases e), fun e => absurd ((e.2.2 h1).2.2.1 h3.1) h3.2⟩
          · rw [if_neg h3]
            by_cases h2 : (ev h i).1 = 2 ∧ (ev h i).2.2.2 ≠ [] ∧ writerL h (ev h i).2.2.1 (ev h i).2.2.2 = none
            · rw [if_pos h2]; exact ⟨fun e => (by cases e), fun e => absurd h2.2.2 ((e.2.2 h1).2.2.2 h2.1 h2.2.1)⟩
            · rw [if_neg h2]
              refine ⟨fun _ => ⟨hm, fun hh => absurd hh h1, fun _ => ⟨hf, he, fun h3' => ?_, fun h2' hv hw => h2 ⟨h2', hv, hw⟩⟩⟩, fun _ => rfl⟩
              exact Classical.byContradiction fun hh => h3 ⟨h3', hh⟩
        · rw [if_pos he]; exact ⟨fun e => (by cases e), fun e => absurd (e.2.2 h1).2.1 he⟩
  · rw [if_pos hm]; exact ⟨fun e => (by cases e), fun e => absurd e.1 hm⟩
end Go.Proofs.YtihggfkenhkglaaDoor
namespace Go.Proofs.YtihggfkenhkglaaDoor
set_option maxRecDepth 100000
set_option linter.unusedVariables false
/-- A number's figures. -/
def figsF : Nat → Nat → List UInt8
  | 0, n => [UInt8.ofNat (48 + n)]
  | f + 1, n => if n < 10 then [UInt8.ofNat (48 + n)] else figsF f (n / 10) ++ [UInt8.ofNat (48 + n % 10)]
def figsL (n : Nat) : List UInt8 := figsF n n
theorem figsF_fuel : ∀ (f g n : Nat), n ≤ f → n ≤ g → figsF f n = figsF g n
  | 0, 0, n, _, _ => rfl
  | 0, g + 1, n, h, _ => by
    have : n = 0 := by omega
    subst this
    rfl
  | f + 1, 0, n, _, h => by
    have : n = 0 := by omega
    subst this
    rfl
  | f + 1, g + 1, n, h1, h2 => by
    simp only [figsF]
    by_cases h : n < 10
    · rw [if_pos h, if_pos h]
    · rw [if_neg h, if_neg h, figsF_fuel f g (n / 10) (by omega) (by omega)]
theorem figsL_eq (n : Nat) : figsL n = if h : n < 10 then [UInt8.ofNat (48 + n)] else figsL (n / 10) ++ [UInt8.ofNat (48 + n % 10)] := by
  by_cases h : n < 10
  · rw [dif_pos h]
    unfold figsL
    cases n with
    | zero => rfl
    | succ k => simp only [figsF]; rw [if_pos h]
  · rw [dif_neg h]
    unfold figsL
    cases n with
    | zero => omega
    | succ k => simp only [figsF]; rw [if_neg h, figsF_fuel k ((k + 1) / 10) ((k + 1) / 10) (by omega) (Nat.le_refl _)]
def figVal (l : List UInt8) : Nat := l.foldl (fun a b => 10 * a + (b.toNat - 48)) 0
theorem figs_val (n : Nat) : figVal (figsL n) = n := by
  induction n using Nat.strongRecOn with
  | _ n ih =>
    rw [figsL_eq]
    by_cases h : n < 10
    · rw [dif_pos h]
      unfold figVal
      have : (UInt8.ofNat (48 + n)).toNat = 48 + n := by rw [UInt8.toNat_ofNat']; omega
      simp only [List.foldl_cons, List.foldl_nil, this]
      omega
    · rw [dif_neg h]
      have ih' := ih (n / 10) (by omega)
      unfold figVal at ih' ⊢
      have : (UInt8.ofNat (48 + n % 10)).toNat = 48 + n % 10 := by rw [UInt8.toNat_ofNat']; omega
      rw [List.foldl_append, ih']
      simp only [List.foldl_cons, List.foldl_nil, this]
      omega
theorem figs_inj (a b : Nat) (h : figsL a = figsL b) : a = b := by rw [← figs_val a, ← figs_val b, h]
theorem figs_ne (n : Nat) : figsL n ≠ [] := by
  rw [figsL_eq]
  by_cases h : n < 10
  · rw [dif_pos h]; simp
  · rw [dif_neg h]; simp
/-- The first place whose text is that one. -/
def fstAt (g : Nat → List UInt8) (n : Nat) (t : List UInt8) : Nat := (fi (fun j => decide (g j = t)) n).getD 0
theorem first_spec (g : Nat → List UInt8) (n i : Nat) (hi : i < n) : fstAt g n (g i) ≤ i ∧ g (fstAt g n (g i)) = g i ∧ ∀ j, j < fstAt g n (g i) → g j ≠ g i := by
  unfold fstAt
  cases hf : fi (fun j => decide (g j = g i)) n with
  | none => have := (fi_none _ _).1 hf i hi; simp at this
  | some k =>
    obtain ⟨h1, h2, h3⟩ := (fi_some _ _ _).1 hf
    rw [Option.getD_some]
    refine ⟨Nat.le_of_not_lt fun hh => ?_, of_decide_eq_true h2, fun j hj => of_decide_eq_false (h3 j hj)⟩
    have := of_decide_eq_false (h3 i hh)
    exact this rfl
theorem first_uniq (g : Nat → List UInt8) (n i k : Nat) (hi : i < n) (h1 : k ≤ i) (h2 : g k = g i) (h3 : ∀ j, j < k → g j ≠ g i) : fstAt g n (g i) = k := by
  obtain ⟨a, b, c⟩ := first_spec g n i hi
  rcases Nat.lt_trichotomy (fstAt g n (g i)) k with hh | hh | hh
  · exact absurd b (h3 _ hh)
  · exact hh
  · exact absurd h2 (c k hh)
def nameL (c : UInt8) (g : Nat → List UInt8) (n : Nat) (t : List UInt8) : List UInt8 := if t = [] then [] else c :: figsL (fstAt g n t)
def keyAt (h : List Ev) (i : Nat) : List UInt8 := (ev h i).2.2.1
def valAt (h : List Ev) (i : Nat) : List UInt8 := (ev h i).2.2.2
def shapeE (h : List Ev) (x : Ev) : Ev := (x.1, x.2.1, nameL 107 (keyAt h) h.length x.2.2.1, nameL 118 (valAt h) h.length x.2.2.2)
def shapeL (h : List Ev) : List Ev := h.map (shapeE h)
/-- Names do not matter: other ones, as unlike as before. -/
theorem name_other (c : UInt8) (g g' : Nat → List UInt8) (n i : Nat) (hi : i < n) (h0 : ∀ j, j < n → (g' j = [] ↔ g j = [])) (hu : ∀ j k, j < n → k < n → (g' j = g' k ↔ g j = g k)) : nameL c g' n (g' i) = nameL c g n (g i) := by
  unfold nameL
  by_cases hz : g i = []
  · rw [if_pos hz, if_pos ((h0 i hi).2 hz)]
  · rw [if_neg hz, if_neg (fun hh => hz ((h0 i hi).1 hh))]
    obtain ⟨a, b, c'⟩ := first_spec g n i hi
    have : fstAt g' n (g' i) = fstAt g n (g i) := first_uniq g' n i _ hi a ((hu _ i (by omega) hi).2 b) (fun j hj hh => c' j hj ((hu j i (by omega) hi).1 hh))
    rw [this]
theorem shape_other (h h' : List Ev) (hl : h'.length = h.length) (hkt : ∀ i, i < h.length → (ev h' i).1 = (ev h i).1 ∧ (ev h' i).2.1 = (ev h i).2.1)
    (k0 : ∀ j, j < h.length → (keyAt h' j = [] ↔ keyAt h j = [])) (ku : ∀ j k, j < h.length → k < h.length → (keyAt h' j = keyAt h' k ↔ keyAt h j = keyAt h k))
    (v0 : ∀ j, j < h.length → (valAt h' j = [] ↔ valAt h j = [])) (vu : ∀ j k, j < h.length → k < h.length → (valAt h' j = valAt h' k ↔ valAt h j = valAt h k)) : shapeL h' = shapeL h := by
  unfold shapeL
  apply List.ext_getElem
  · simp [hl]
  · intro i h1 h2
    simp only [List.length_map] at h1 h2
    simp only [List.getElem_map]
    have e1 : h'[i]'(by omega) = ev h' i := (ev_get h' i (by omega)).symm
    have e2 : h[i]'(by omega) = ev h i := (ev_get h i (by omega)).symm
    rw [e1, e2]
    unfold shapeE
    have hk := name_other 107 (keyAt h) (keyAt h') h.length i (by omega) k0 ku
    have hv := name_other 118 (valAt h) (valAt h') h.length i (by omega) v0 vu
    unfold keyAt at hk
    unfold valAt at hv
    unfold keyAt valAt
    rw [hl, hk, hv, (hkt i (by omega)).1, (hkt i (by omega)).2]
theorem shape_at (h : List Ev) (i : Nat) (hi : i < h.length) : ev (shapeL h) i = shapeE h (ev h i) := by
  rw [ev_get _ _ (by unfold shapeL; rw [List.length_map]; exact hi), ev_get _ _ hi]
  unfold shapeL
  rw [List.getElem_map]
theorem shape_len (h : List Ev) : (shapeL h).length = h.length := by unfold shapeL; rw [List.length_map]
theorem name_empty (c : UInt8) (g : Nat → List UInt8) (n : Nat) (t : List UInt8) : nameL c g n t = [] ↔ t = [] := by
  unfold nameL
  by_cases h : t = []
  · rw [if_pos h]; simp [h]
  · rw [if_neg h]; simp [h]
theorem name_same (c : UInt8) (g : Nat → List UInt8) (n j k : Nat) (hj : j < n) (hk : k < n) : nameL c g n (g j) = nameL c g n (g k) ↔ g j = g k := by
  constructor
  · intro hh
    unfold nameL at hh
    by_cases h1 : g j = []
    · rw [if_pos h1] at hh
      by_cases h2 : g k = []
      · rw [h1, h2]
      · rw [if_neg h2] at hh; cases hh
    · rw [if_neg h1] at hh
      by_cases h2 : g k = []
      · rw [if_pos h2] at hh; cases hh
      · rw [if_neg h2] at hh
        have := figs_inj _ _ (List.cons.inj hh).2
        have a := (first_spec g n j hj).2.1
        have b := (first_spec g n k hk).2.1
        rw [this] at a
        exact a.symm.trans b
  · intro hh; rw [hh]
/-- A shape's shape is itself. -/
theorem shape_shape (h : List Ev) : shapeL (shapeL h) = shapeL h := by
  have hk : ∀ j, j < h.length → keyAt (shapeL h) j = nameL 107 (keyAt h) h.length (keyAt h j) := fun j hj => by unfold keyAt; rw [shape_at h j hj]; rfl
  have hv : ∀ j, j < h.length → valAt (shapeL h) j = nameL 118 (valAt h) h.length (valAt h j) := fun j hj => by unfold valAt; rw [shape_at h j hj]; rfl
  refine shape_other h (shapeL h) (shape_len h) (fun i hi => by rw [shape_at h i hi]; exact ⟨rfl, rfl⟩) (fun j hj => ?_) (fun j k hj hk' => ?_) (fun j hj => ?_) (fun j k hj hk' => ?_)
  · rw [hk j hj, name_empty]
  · rw [hk j hj, hk k hk', name_same _ _ _ _ _ hj hk']
  · rw [hv j hj, name_empty]
  · rw [hv j hj, hv k hk', name_same _ _ _ _ _ hj hk']
theorem name_cut (c : UInt8) (g g' : Nat → List UInt8) (n m i : Nat) (hi : i < m) (hm : m ≤ n) (he : ∀ j, j < m → g' j = g j) : nameL c g' m (g' i) = nameL c g n (g i) := by
  unfold nameL
  rw [he i hi]
  by_cases hz : g i = []
  · rw [if_pos hz, if_pos hz]
  · rw [if_neg hz, if_neg hz]
    obtain ⟨a, b, c'⟩ := first_spec g n i (by omega)
    have := first_uniq g' m i (fstAt g n (g i)) hi a (by rw [he _ (by omega), he i hi]; exact b) (fun j hj => by rw [he j (by omega), he i hi]; exact c' j hj)
    rw [he i hi] at this
    rw [this]
/-- The shape of a beginning is the beginning of the shape. -/
theorem shape_take (h : List Ev) (m : Nat) (hm : m ≤ h.length) : shapeL (h.take m) = (shapeL h).take m := by
  have hl : (h.take m).length = m := by rw [List.length_take]; omega
  apply List.ext_getElem
  · rw [shape_len, hl, List.length_take, shape_len]; omega
  · intro i h1 h2
    rw [shape_len, hl] at h1
    rw [List.getElem_take]
    have e1 : (shapeL (h.take m))[i]'(by rw [shape_len, hl]; exact h1) = shapeE (h.take m) (ev (h.take m) i) := by rw [← ev_get _ _ (by rw [shape_len, hl]; exact h1)]; exact shape_at _ i (by rw [hl]; exact h1)
    have e2 : (shapeL h)[i]'(by rw [shape_len]; omega) = shapeE h (ev h i) := by rw [← ev_get _ _ (by rw [shape_len]; omega)]; exact shape_at _ i (by omega)
    rw [e1, e2]
    have hE : ∀ j, j < m → ev (h.take m) j = ev h j := fun j hj => ev_take h m j hj hm
    have hk := name_cut 107 (keyAt h) (keyAt (h.take m)) h.length m i h1 hm (fun j hj => by unfold keyAt; rw [hE j hj])
    have hv := name_cut 118 (valAt h) (valAt (h.take m)) h.length m i h1 hm (fun j hj => by unfold valAt; rw [hE j hj])
    unfold shapeE
    rw [hl, hE i h1]
    have k1 : keyAt (h.take m) i = (ev h i).2.2.1 := by unfold keyAt; rw [hE i h1]
    have v1 : valAt (h.take m) i = (ev h i).2.2.2 := by unfold valAt; rw [hE i h1]
    rw [k1] at hk
    rw [v1] at hv
    rw [hk, hv]
    rfl
section
variable (kd : List UInt8 → List UInt8)
/-- A history with tags. -/
def tagK (k : List UInt8) : List UInt8 := kd (5 :: k)
def tagV (v : List UInt8) : List UInt8 := if v = [] then [] else kd (6 :: v)
def tagE (x : Ev) : Ev := if keyedE x.1 then (x.1, x.2.1, tagK kd x.2.2.1, tagV kd x.2.2.2) else x
def tagsL (h : List Ev) : List Ev := h.map (tagE kd)
theorem tags_len (h : List Ev) : (tagsL kd h).length = h.length := by unfold tagsL; rw [List.length_map]
theorem tags_at (h : List Ev) (i : Nat) (hi : i < h.length) : ev (tagsL kd h) i = tagE kd (ev h i) := by
  rw [ev_get _ _ (by rw [tags_len]; exact hi), ev_get _ _ hi]
  unfold tagsL
  rw [List.getElem_map]
/-- Keys' inputs, and values', of a history ([]: it has none). -/
def keyIn (h : List Ev) (i : Nat) : List UInt8 := if keyedE (ev h i).1 then 5 :: keyAt h i else []
def valIn (h : List Ev) (i : Nat) : List UInt8 := if keyedE (ev h i).1 ∧ valAt h i ≠ [] then 6 :: valAt h i else []
def twinB (g : Nat → List UInt8) (i k : Nat) : Bool := decide (g i ≠ [] ∧ g k ≠ [] ∧ g i ≠ g k ∧ kd (g i) = kd (g k))
def twinAt (g : Nat → List UInt8) (i : Nat) : Option Nat := fi (fun k => twinB kd g i k) i
/-- The first that has a twin ahead of it, and that one. -/
def twinsG (g : Nat → List UInt8) (n : Nat) : Option (List UInt8 × List UInt8) :=
  match fi (fun i => (twinAt kd g i).isSome) n with
  | none => none
  | some i => match twinAt kd g i with
    | none => none
    | some k => some (g k, g i)
theorem twinsG_some (g : Nat → List UInt8) (n : Nat) (x y : List UInt8) (h : twinsG kd g n = some (x, y)) : x ≠ y ∧ kd x = kd y ∧ ∃ i k, k < i ∧ i < n ∧ x = g k ∧ y = g i := by
  unfold twinsG at h
  cases h1 : fi (fun i => (twinAt kd g i).isSome) n with
  | none => rw [h1] at h; cases h
  | some i =>
    rw [h1] at h
    simp only at h
    cases h2 : twinAt kd g i with
    | none => rw [h2] at h; cases h
    | some k =>
      rw [h2] at h
      cases h
      obtain ⟨a1, a2, a3⟩ := (fi_some _ _ _).1 h2
      have := of_decide_eq_true a2
      exact ⟨fun hh => this.2.2.1 hh.symm, this.2.2.2.symm, i, k, a1, ((fi_some _ _ _).1 h1).1, rfl, rfl⟩
theorem twinsG_none (g : Nat → List UInt8) (n : Nat) (h : twinsG kd g n = none) (i k : Nat) (hi : i < n) (hk : k < n) (h1 : g i ≠ []) (h2 : g k ≠ []) (he : kd (g i) = kd (g k)) : g i = g k := by
  have key : ∀ i k, k < i → i < n → g i ≠ [] → g k ≠ [] → kd (g i) = kd (g k) → g i = g k := by
    intro i k hki hin h1 h2 he
    apply Classical.byContradiction
    intro hne
    have ht : (twinAt kd g i).isSome = true := by
      cases hh : twinAt kd g i with
      | some _ => rfl
      | none =>
        have := (fi_none _ _).1 hh k hki
        have := of_decide_eq_false this
        exact absurd ⟨h1, h2, hne, he⟩ this
    unfold twinsG at h
    cases hf : fi (fun i => (twinAt kd g i).isSome) n with
    | none => have := (fi_none _ _).1 hf i hin; rw [ht] at this; cases this
    | some j =>
      rw [hf] at h
      simp only at h
      have := ((fi_some _ _ _).1 hf).2.1
      cases hj : twinAt kd g j with
      | none => rw [hj] at this; cases this
      | some q => rw [hj] at h; cases h
  rcases Nat.lt_trichotomy i k with hh | hh | hh
  · exact (key k i hh hk h2 h1 he.symm).symm
  · rw [hh]
  · exact key i k hh hi h1 h2 he
/-- What is redacted has the shape of what it was, unless there are twins. -/
theorem shape_tags (h32 : ∀ s, (kd s).length = 32) (h : List Ev) (hm : ∀ i, i < h.length → mayE (ev h i)) (hk : twinsG kd (keyIn h) h.length = none) (hv : twinsG kd (valIn h) h.length = none) : shapeL (tagsL kd h) = shapeL h := by
  have ne : ∀ s, kd s ≠ [] := fun s he => by have := h32 s; rw [he] at this; cases this
  have hK : ∀ j, j < h.length → keyAt (tagsL kd h) j = if keyedE (ev h j).1 then tagK kd (keyAt h j) else keyAt h j := fun j hj => by
    unfold keyAt; rw [tags_at kd h j hj]; unfold tagE
    by_cases hc : keyedE (ev h j).1
    · rw [if_pos hc, if_pos hc]
    · rw [if_neg hc, if_neg hc]
  have hV : ∀ j, j < h.length → valAt (tagsL kd h) j = if keyedE (ev h j).1 then tagV kd (valAt h j) else valAt h j := fun j hj => by
    unfold valAt; rw [tags_at kd h j hj]; unfold tagE
    by_cases hc : keyedE (ev h j).1
    · rw [if_pos hc, if_pos hc]
    · rw [if_neg hc, if_neg hc]
  have kne : ∀ j, j < h.length → (keyedE (ev h j).1 ↔ keyAt h j ≠ []) := fun j hj => by
    have := (hm j hj).2
    by_cases hc : keyedE (ev h j).1
    · rw [if_pos hc] at this
      exact ⟨fun _ he => by unfold keyAt at he; rw [he] at this; simp at this, fun _ => hc⟩
    · rw [if_neg hc] at this
      exact ⟨fun hh => absurd hh hc, fun hh => absurd this.1 hh⟩
  have vz : ∀ j, j < h.length → ¬ keyedE (ev h j).1 → valAt h j = [] := fun j hj hc => by
    have := (hm j hj).2
    rw [if_neg hc] at this
    exact this.2
  refine shape_other h (tagsL kd h) (tags_len kd h) (fun i hi => ?_) (fun j hj => ?_) (fun j k hj hk' => ?_) (fun j hj => ?_) (fun j k hj hk' => ?_)
  · rw [tags_at kd h i hi]; unfold tagE
    by_cases hc : keyedE (ev h i).1
    · rw [if_pos hc]; exact ⟨rfl, rfl⟩
    · rw [if_neg hc]; exact ⟨rfl, rfl⟩
  · rw [hK j hj]
    by_cases hc : keyedE (ev h j).1
    · rw [if_pos hc]
      exact ⟨fun hh => absurd hh (ne _), fun hh => absurd hh ((kne j hj).1 hc)⟩
    · rw [if_neg hc]
  · rw [hK j hj, hK k hk']
    by_cases hc : keyedE (ev h j).1
    · rw [if_pos hc]
      by_cases hd : keyedE (ev h k).1
      · rw [if_pos hd]
        refine ⟨fun hh => ?_, fun hh => by rw [hh]⟩
        have := twinsG_none kd (keyIn h) h.length hk j k hj hk' (by unfold keyIn; rw [if_pos hc]; simp) (by unfold keyIn; rw [if_pos hd]; simp) (by unfold keyIn; rw [if_pos hc, if_pos hd]; exact hh)
        unfold keyIn at this
        rw [if_pos hc, if_pos hd] at this
        exact (List.cons.inj this).2
      · rw [if_neg hd]
        have h2 : keyAt h k = [] := Classical.byContradiction fun hh => hd ((kne k hk').2 hh)
        rw [h2]
        exact ⟨fun hh => absurd hh (ne _), fun hh => absurd hh ((kne j hj).1 hc)⟩
    · rw [if_neg hc]
      have h1 : keyAt h j = [] := Classical.byContradiction fun hh => hc ((kne j hj).2 hh)
      rw [h1]
      by_cases hd : keyedE (ev h k).1
      · rw [if_pos hd]
        exact ⟨fun hh => absurd hh.symm (ne _), fun hh => absurd hh.symm ((kne k hk').1 hd)⟩
      · rw [if_neg hd]
  · rw [hV j hj]
    by_cases hc : keyedE (ev h j).1
    · rw [if_pos hc]
      unfold tagV
      by_cases hz : valAt h j = []
      · rw [if_pos hz]; simp [hz]
      · rw [if_neg hz]; exact ⟨fun hh => absurd hh (ne _), fun hh => absurd hh hz⟩
    · rw [if_neg hc]
  · have hV' : ∀ j, j < h.length → valAt (tagsL kd h) j = tagV kd (valAt h j) := fun j hj => by
      rw [hV j hj]
      by_cases hc : keyedE (ev h j).1
      · rw [if_pos hc]
      · rw [if_neg hc, vz j hj hc]; unfold tagV; rw [if_pos rfl]
    have hkd : ∀ j, j < h.length → valAt h j ≠ [] → keyedE (ev h j).1 := fun j hj hn => Classical.byContradiction fun hc => hn (vz j hj hc)
    rw [hV' j hj, hV' k hk']
    refine ⟨fun hh => ?_, fun hh => by rw [hh]⟩
    unfold tagV at hh
    by_cases h1 : valAt h j = []
    · rw [if_pos h1] at hh
      by_cases h2 : valAt h k = []
      · rw [h1, h2]
      · rw [if_neg h2] at hh; exact absurd hh.symm (ne _)
    · rw [if_neg h1] at hh
      by_cases h2 : valAt h k = []
      · rw [if_pos h2] at hh; exact absurd hh (ne _)
      · rw [if_neg h2] at hh
        have a1 : valIn h j = 6 :: valAt h j := by unfold valIn; rw [if_pos ⟨hkd j hj h1, h1⟩]
        have a2 : valIn h k = 6 :: valAt h k := by unfold valIn; rw [if_pos ⟨hkd k hk' h2, h2⟩]
        have := twinsG_none kd (valIn h) h.length hv j k hj hk' (by rw [a1]; simp) (by rw [a2]; simp) (by rw [a1, a2]; exact hh)
        rw [a1, a2] at this
        exact (List.cons.inj this).2
end
end Go.Proofs.YtihggfkenhkglaaDoor
namespace Go.Proofs.YtihggfkenhkglaaDoor
set_option maxRecDepth 100000
set_option linter.unusedVariables false
/-- Other names. -/
def renE (f m : List UInt8) (x : Ev) : Ev := (x.1, x.2.1, if x.2.2.1 = [] then [] else f ++ x.2.2.1 ++ m, if x.2.2.2 = [] then [] else m ++ x.2.2.2 ++ f)
theorem ren_at (f m : List UInt8) (h : List Ev) (i : Nat) (hi : i < h.length) : ev (h.map (renE f m)) i = renE f m (ev h i) := by
  rw [ev_get _ _ (by rw [List.length_map]; exact hi), ev_get _ _ hi, List.getElem_map]
theorem wrap_nil (f m t : List UInt8) : (if t = [] then [] else f ++ t ++ m) = [] ↔ t = [] := by
  by_cases h : t = []
  · rw [if_pos h]; simp [h]
  · rw [if_neg h]; simp [h]
theorem wrap_inj (f m t u : List UInt8) : (if t = [] then [] else f ++ t ++ m) = (if u = [] then [] else f ++ u ++ m) ↔ t = u := by
  refine ⟨fun h => ?_, fun h => by rw [h]⟩
  by_cases h1 : t = []
  · rw [if_pos h1] at h
    have := (wrap_nil f m u).1 h.symm
    rw [h1, this]
  · by_cases h2 : u = []
    · rw [if_pos h2] at h
      exact absurd ((wrap_nil f m t).1 h) h1
    · rw [if_neg h1, if_neg h2] at h
      exact List.append_cancel_left (List.append_cancel_right h)
theorem shape_ren (f m : List UInt8) (h : List Ev) : shapeL (h.map (renE f m)) = shapeL h := by
  have hk : ∀ j, j < h.length → keyAt (h.map (renE f m)) j = if keyAt h j = [] then [] else f ++ keyAt h j ++ m := fun j hj => by unfold keyAt; rw [ren_at f m h j hj]; rfl
  have hv : ∀ j, j < h.length → valAt (h.map (renE f m)) j = if valAt h j = [] then [] else m ++ valAt h j ++ f := fun j hj => by unfold valAt; rw [ren_at f m h j hj]; rfl
  refine shape_other h _ (by rw [List.length_map]) (fun i hi => by rw [ren_at f m h i hi]; exact ⟨rfl, rfl⟩) (fun j hj => ?_) (fun j k hj hk' => ?_) (fun j hj => ?_) (fun j k hj hk' => ?_)
  · rw [hk j hj]; exact wrap_nil _ _ _
  · rw [hk j hj, hk k hk']; exact wrap_inj _ _ _ _
  · rw [hv j hj]; exact wrap_nil _ _ _
  · rw [hv j hj, hv k hk']; exact wrap_inj _ _ _ _
theorem figsN_len (n : Nat) : ∀ m, n < 10 ^ m → (figsL n).length ≤ m + 1 := by
  intro m
  induction m generalizing n with
  | zero => intro h; have : n = 0 := by simpa using h
            subst this; rw [figsL_eq]; simp
  | succ m ih =>
    intro h
    rw [figsL_eq]
    by_cases h1 : n < 10
    · rw [dif_pos h1]; simp
    · rw [dif_neg h1, List.length_append]
      have := ih (n / 10) (by rw [Nat.pow_succ] at h; omega)
      simp
      omega
theorem name_len (c : UInt8) (g : Nat → List UInt8) (n i : Nat) (hi : i < n) (hn : n ≤ 256) : (nameL c g n (g i)).length ≤ 100 := by
  unfold nameL
  by_cases h : g i = []
  · rw [if_pos h]; simp
  · rw [if_neg h]
    have := (first_spec g n i hi).1
    have := figsN_len (fstAt g n (g i)) 3 (by omega)
    simp only [List.length_cons]
    omega
theorem shape_lens (h : List Ev) (hl : h.length ≤ 256) : ∀ x ∈ shapeL h, x.2.2.1.length ≤ 1125899906842624 ∧ x.2.2.2.length ≤ 1125899906842624 := by
  intro x hx
  unfold shapeL at hx
  obtain ⟨y, hy, rfl⟩ := List.mem_map.1 hx
  obtain ⟨i, hi, rfl⟩ := List.getElem_of_mem hy
  have k := name_len 107 (keyAt h) h.length i hi hl
  have v := name_len 118 (valAt h) h.length i hi hl
  unfold keyAt at k
  unfold valAt at v
  rw [ev_get h i hi] at k v
  unfold shapeE keyAt valAt
  simp only
  omega
theorem ren_lens (f m : List UInt8) (h : List Ev) (G : ∀ x ∈ h, x.2.2.1.length ≤ 140737488351232 ∧ x.2.2.2.length ≤ 140737488351232) (lf : f.length ≤ 140737488351232) (lm : m.length ≤ 140737488351232) : ∀ x ∈ h.map (renE f m), x.2.2.1.length ≤ 1125899906842624 ∧ x.2.2.2.length ≤ 1125899906842624 := by
  intro x hx
  obtain ⟨y, hy, rfl⟩ := List.mem_map.1 hx
  have g := G y hy
  unfold renE
  simp only
  constructor
  · by_cases h1 : y.2.2.1 = []
    · rw [if_pos h1]; simp
    · rw [if_neg h1]; simp only [List.length_append]; omega
  · by_cases h1 : y.2.2.2 = []
    · rw [if_pos h1]; simp
    · rw [if_neg h1]; simp only [List.length_append]; omega
end Go.Proofs.YtihggfkenhkglaaDoor
namespace Go.Proofs.YtihggfkenhkglaaDoor
set_option maxRecDepth 100000
set_option linter.unusedVariables false
/-- What a pass seals. -/
def saidL (t : List UInt8) (u : Nat) : List UInt8 := Lm.lenL t.length ++ t ++ Lm.numL u
abbrev mayK (k : List UInt8) : Prop := 1 ≤ k.length ∧ k.length ≤ 32
abbrev mayT (t : List UInt8) : Prop := 1 ≤ t.length ∧ t.length ≤ 16
/-- What bytes are as a pass. -/
def takeP (s : List UInt8) : Option (List UInt8 × Nat × List UInt8) :=
  if (Lm.takeTextL s 16).2.2 ≠ 0 ∨ (Lm.takeTextL s 16).1.length = 0 then none
  else if (Lm.takeNumL (Lm.takeTextL s 16).2.1).2.2 ≠ 0 ∨ (Lm.takeNumL (Lm.takeTextL s 16).2.1).2.1.length ≠ 32 then none
  else some ((Lm.takeTextL s 16).1, (Lm.takeNumL (Lm.takeTextL s 16).2.1).1, (Lm.takeNumL (Lm.takeTextL s 16).2.1).2.1)
theorem takeP_text (t : List UInt8) (h : mayT t) (u : Nat) (v : List UInt8) : Lm.takeTextL (saidL t u ++ v) 16 = (t, Lm.numL u ++ v, 0) := by
  unfold saidL
  rw [List.append_assoc]
  exact Lm.takeText_text t (by have := h.2; omega) 16 (by have := h.2; omega) _
theorem takeP_said (t : List UInt8) (h : mayT t) (u : Nat) (hu : u < 2 ^ 64) (v : List UInt8) : takeP (saidL t u ++ v) = if v.length = 32 then some (t, u, v) else none := by
  unfold takeP
  rw [takeP_text t h u v]
  simp only [Lm.take_num u hu v]
  rw [if_neg (by have := h.1; omega)]
  by_cases hv : v.length = 32
  · rw [if_pos hv, if_neg (by omega)]
  · rw [if_neg hv, if_pos (Or.inr hv)]
theorem takeP_nil : takeP [] = none := by
  unfold takeP
  rw [if_pos (Or.inl (by decide))]
theorem takeP_seal (s t v : List UInt8) (u : Nat) (h : takeP s = some (t, u, v)) : v.length = 32 ∧ 1 ≤ t.length ∧ t.length ≤ 65535 := by
  unfold takeP at h
  by_cases h1 : (Lm.takeTextL s 16).2.2 ≠ 0 ∨ (Lm.takeTextL s 16).1.length = 0
  · rw [if_pos h1] at h; cases h
  · rw [if_neg h1] at h
    by_cases h2 : (Lm.takeNumL (Lm.takeTextL s 16).2.1).2.2 ≠ 0 ∨ (Lm.takeNumL (Lm.takeTextL s 16).2.1).2.1.length ≠ 32
    · rw [if_pos h2] at h; cases h
    · rw [if_neg h2] at h
      have b := takeTextL_bd s 16
      simp only [Option.some.injEq, Prod.mk.injEq] at h
      obtain ⟨rfl, rfl, rfl⟩ := h
      omega
theorem saidL_len (t : List UInt8) (u : Nat) : t.length + 2 ≤ (saidL t u).length ∧ (saidL t u).length ≤ t.length + 12 := by
  have h1 := Lm.lenL_le t.length
  have h2 := Lm.lenL_pos t.length
  have h3 := Lm.numL_length u
  have h4 := Lm.cnt_le u
  unfold saidL
  simp only [List.length_append]
  omega
section
variable (kd : List UInt8 → List UInt8 → List UInt8)
def sealL (k t : List UInt8) (u : Nat) : List UInt8 := kd k (4 :: saidL t u)
def issueL (k t : List UInt8) (u : Nat) : List UInt8 × Nat := if mayK k ∧ mayT t then (saidL t u ++ sealL kd k t u, 0) else ([], 1)
def checkP (k s : List UInt8) (now : Nat) : List UInt8 × Nat :=
  match takeP s with
  | none => ([], 3)
  | some (t, u, v) => if ¬ mayK k ∨ v ≠ sealL kd k t u then ([], 10) else if u < now then ([], 11) else (t, 0)
/-- What was issued is checked up to its time, and not behind it. -/
theorem check_issued (h32 : ∀ k s, (kd k s).length = 32) (k t : List UInt8) (u now : Nat) (hk : mayK k) (ht : mayT t) (hu : u < 2 ^ 64) : checkP kd k (saidL t u ++ sealL kd k t u) now = if u < now then ([], 11) else (t, 0) := by
  unfold checkP
  rw [takeP_said t ht u hu, if_pos (show (sealL kd k t u).length = 32 from h32 _ _)]
  simp only
  rw [if_neg (by intro h; rcases h with h | h; exact h hk; exact h rfl)]
/-- By another key: just if the seals are the same. -/
theorem check_other (h32 : ∀ k s, (kd k s).length = 32) (k o t : List UInt8) (u : Nat) (hk : mayK k) (ho : mayK o) (ht : mayT t) (hu : u < 2 ^ 64) : checkP kd o (saidL t u ++ sealL kd k t u) 0 = if sealL kd k t u = sealL kd o t u then (t, 0) else ([], 10) := by
  unfold checkP
  rw [takeP_said t ht u hu, if_pos (show (sealL kd k t u).length = 32 from h32 _ _)]
  simp only
  by_cases h : sealL kd k t u = sealL kd o t u
  · rw [if_pos h, if_neg (by intro h'; rcases h' with h' | h'; exact h' ho; exact h' h), if_neg (by omega)]
  · rw [if_neg h, if_pos (Or.inr h)]
/-- A seal that is another one. -/
theorem check_turned (k t v : List UInt8) (u now : Nat) (ht : mayT t) (hu : u < 2 ^ 64) (hv : v.length = 32) (hne : v ≠ sealL kd k t u) : checkP kd k (saidL t u ++ v) now = ([], 10) := by
  unfold checkP
  rw [takeP_said t ht u hu, if_pos hv]
  simp only
  rw [if_pos (Or.inr hne)]
/-- A byte more, or less. -/
theorem check_odd (k t v : List UInt8) (u now : Nat) (ht : mayT t) (hu : u < 2 ^ 64) (hv : v.length ≠ 32) : checkP kd k (saidL t u ++ v) now = ([], 3) := by
  unfold checkP
  rw [takeP_said t ht u hu, if_neg hv]
end
theorem set_other (v : List UInt8) (i : Nat) (b : UInt8) (hi : i < v.length) (h : v[i] ≠ b) : v.set i b ≠ v := by
  intro e
  apply h
  have : (v.set i b)[i]'(by simpa using hi) = b := by simp
  rw [← this]
  simp only [e]
end Go.Proofs.YtihggfkenhkglaaDoor
