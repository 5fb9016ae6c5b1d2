/-
  Bads in rows; what is told of a place that may be none: of no program but for the type.
  Lives and numbers in rows; what is found, as a value: of no program but for the types.
  What a loop that looks for a transaction knows: in lists.
  What is told of a read, by the life that is found: of no program but for the types.
-/
import Derived.Test.YtljgflgfcbmgiaaProg
import Derived.Test.YtljgflgfcbmgiaaGA
import Derived.Test.YtljgflgfcbmgiaaGC
namespace Go.Proofs.Ytljgflgfcbmgiaa
set_option maxRecDepth 100000
open Go.RowKit
set_option linter.unusedVariables false
abbrev Bd := Int × Int × Int
def badV (x : Bd) : List Value := [.int .i64 x.1, .int .i64 x.2.1, .int .i64 x.2.2]
theorem badV_len (x : Bd) : (badV x).length = 3 := rfl
theorem badV_one (x : Bd) : ∀ u ∈ badV x, u.oneCell' = true := by
  intro u hu
  simp [badV] at hu
  rcases hu with rfl | rfl | rfl <;> rfl
abbrev IsBads (w : World) (v : Value) (L : List Bd) : Prop := IsRec 3 badV w v L
abbrev badA (x : Bd) : Value := .agg #[.int .i64 x.1, .int .i64 x.2.1, .int .i64 x.2.2]
theorem bad_info : (Try.prog.info? 29).map (fun i => (i.zero, i.size, i.bytes)) = some (some (.agg #[.int .i64 0, .int .i64 0, .int .i64 0]), 3, 24) := by kernel_rfl
theorem size_bad : (Try.prog.info? 29).map (·.size) = some 3 := by kernel_rfl
def BdRow (t : TypeId) (w : World) (L : List Bd) (e : Ending) (w' : World) : Prop := ∃ v, e = .returned v ∧ Below w.heap.size w w' ∧ w'.ownsRow w.heap.size t 3 v L.length (recV badV L)
/-- Of whatever number: does it count, what is wrong, is it of what another one wrote. -/
def countI (h : List Ev) (i : Int) : Bool := decide (0 ≤ i) && countsB h i.toNat
def atI (h : List Ev) (i : Int) : Bd := if 0 ≤ i then atL h i.toNat else (0, 0, 0)
def outerI (h : List Ev) (i : Int) : Bool := decide (0 ≤ i) && outerB h i.toNat
theorem count_out (h : List Ev) (i : Nat) (hi : ¬ i < h.length) : countsB h i = false := by unfold countsB; rw [decide_eq_false hi]; rfl
theorem count_kind (h : List Ev) (i : Nat) (hk : (ev h i).1 ≠ 2) : countsB h i = false := by unfold countsB; rw [decide_eq_false hk]; simp
theorem count_open (h : List Ev) (i : Nat) (he : endL h (ev h i).2.1 h.length = none) : countsB h i = false := by
  unfold countsB commL
  rw [he]
  simp
theorem count_end (h : List Ev) (i e : Nat) (hi : i < h.length) (hk : (ev h i).1 = 2) (he : endL h (ev h i).2.1 h.length = some e) : countsB h i = (decide (i < e) && decide ((ev h e).1 = 4)) := by
  unfold countsB commL
  rw [he, decide_eq_true hi, decide_eq_true hk]
  simp only
  by_cases h4 : (ev h e).1 = 4
  · rw [if_pos h4, decide_eq_true h4]; simp
  · rw [if_neg h4, decide_eq_false h4]; simp
/-- A struct alone as a result. -/
theorem results_row1 {P : Program} {fn : Func} {p : Tmp} {ty : TypeId} (h : fn.results = #[.cell p ty]) (tmps : Array Value) (w : World) (g : Nat) (t : TypeId) (cs : Array Value) (fr : Nat × Nat) (d : TypeDesc)
    (hp : tmps.getD p undef = .pointer (some ⟨g, 0, none⟩)) (hg : w.heap[g]? = some (.cells cs t fr))
    (hu : P.underlying ty = some d) (hd : (match d with | .struct _ | .array _ _ => true | _ => false) = true) (hi : (P.info? ty).map (·.size) = some cs.size) :
    (results fn tmps).run P w = .ok (.agg cs) w := by
  have hp' : tmps[p]?.getD undef = .pointer (some ⟨g, 0, none⟩) := by simpa using hp
  simp [results, h, hp', asAddr, run_loadVar_row w g t ty cs fr d hg hu hd hi]
/-- All cells of a struct of three stored. -/
theorem SBox.put3 {w : World} {g : Nat} {t : TypeId} {p q r : Value} (h : SBox w g t #[p, q, r]) (a b c : Value) : SBox (((w.setCell ⟨g, 0, none⟩ a).setCell ⟨g, 1, none⟩ b).setCell ⟨g, 2, none⟩ c) g t #[a, b, c] := ((h.set 0 a).set 1 b).set 2 c
theorem bel_put3 {B : Nat} {a w : World} (h : Below B a w) {g : Nat} (hg : B ≤ g) (p q r : Value) : Below B a (((w.setCell ⟨g, 0, none⟩ p).setCell ⟨g, 1, none⟩ q).setCell ⟨g, 2, none⟩ r) :=
  ((h.setCell (p := ⟨g, 0, none⟩) hg p).setCell (p := ⟨g, 1, none⟩) hg q).setCell (p := ⟨g, 2, none⟩) hg r
end Go.Proofs.Ytljgflgfcbmgiaa
namespace Go.Proofs.Ytljgflgfcbmgiaa
set_option maxRecDepth 100000
open Go.RowKit
set_option linter.unusedVariables false
abbrev Lf := Int × Nat × Nat × Bool
def lifV (x : Lf) : List Value := [.int .i64 x.1, .int .i64 (x.2.1 : Int), .int .i64 (x.2.2.1 : Int), .bool x.2.2.2]
theorem lifV_len (x : Lf) : (lifV x).length = 4 := rfl
theorem lifV_one (x : Lf) : ∀ u ∈ lifV x, u.oneCell' = true := by
  intro u hu
  simp [lifV] at hu
  rcases hu with rfl | rfl | rfl | rfl <;> rfl
abbrev IsLfs (w : World) (v : Value) (L : List Lf) : Prop := IsRec 4 lifV w v L
abbrev lifA (x : Lf) : Value := .agg #[.int .i64 x.1, .int .i64 (x.2.1 : Int), .int .i64 (x.2.2.1 : Int), .bool x.2.2.2]
def findP (h : List Ev) (t : Int) : Lf × Bool := match findL h t with
  | none => ((0, 0, 0, false), false)
  | some x => (x, true)
theorem lif_info : (Try.prog.info? 39).map (fun i => (i.zero, i.size, i.bytes)) = some (some (.agg #[.int .i64 0, .int .i64 0, .int .i64 0, .bool false]), 4, 32) := by kernel_rfl
theorem size_lif : (Try.prog.info? 39).map (·.size) = some 4 := by kernel_rfl
/-- Numbers in a row. -/
def intV (n : Int) : List Value := [.int .i64 n]
theorem intV_len (n : Int) : (intV n).length = 1 := rfl
abbrev IsInts (w : World) (v : Value) (L : List Int) : Prop := IsRec 1 intV w v L
theorem int_info : (Try.prog.info? 3).map (fun i => (i.zero, i.size, i.bytes)) = some (some (.int .i64 0), 1, 8) := by kernel_rfl
/-- A row of lives, made; a row of numbers, made. -/
def LfRow (t : TypeId) (w : World) (L : List Lf) (e : Ending) (w' : World) : Prop := ∃ v, e = .returned v ∧ Below w.heap.size w w' ∧ w'.ownsRow w.heap.size t 4 v L.length (recV lifV L)
def InRow (w : World) (L : List Int) (e : Ending) (w' : World) : Prop := ∃ v, e = .returned v ∧ Below w.heap.size w w' ∧ w'.ownsRow w.heap.size 3 1 v L.length (recV intV L)
theorem find_has (h : List Ev) (i : Nat) (hi : i < h.length) : ∃ x, findL h (ev h i).2.1 = some x := by
  unfold findL
  cases hf : fstL h (ev h i).2.1 h.length with
  | none => exact absurd rfl ((fstL_none _ _ _).1 hf i hi)
  | some f =>
    simp only
    cases endL h (ev h i).2.1 h.length with
    | none => exact ⟨_, rfl⟩
    | some e => exact ⟨_, rfl⟩
theorem findP_of {h : List Ev} {t : Int} {x : Lf} (hx : findL h t = some x) : findP h t = (x, true) := by unfold findP; rw [hx]
theorem last_upto (h : List Ev) (t : Int) (key : List UInt8) (i : Nat) (hi : i ≤ h.length) : lastL h t key (i : Int) = lastN h t key i := by
  unfold lastL
  rw [Int.toNat_natCast, Nat.min_eq_right hi]
theorem last_end (h : List Ev) (t : Int) (key : List UInt8) (before : Int) (k : Nat) (hk : k ≤ h.length) (hb : k = 0 ∨ (k : Int) ≤ before) (he : k = h.length ∨ before ≤ (k : Int)) : lastL h t key before = lastN h t key k := by
  unfold lastL
  have : min h.length before.toNat = k := by rw [Nat.min_def]; split <;> omega
  rw [this]
end Go.Proofs.Ytljgflgfcbmgiaa
namespace Go.Proofs.Ytljgflgfcbmgiaa
set_option maxRecDepth 100000
set_option linter.unusedVariables false
def FdI (h : List Ev) (t : Int) (k : Nat) (L : Lf) (th : Bool) : Prop :=
  endL h t k = none ∧ ((fstL h t k = none ∧ th = false ∧ L = (0, 0, 0, false)) ∨ ∃ f, fstL h t k = some f ∧ th = true ∧ L = (t, f, h.length, false))
theorem fd_zero (h : List Ev) (t : Int) : FdI h t 0 (0, 0, 0, false) false := ⟨rfl, Or.inl ⟨rfl, rfl, rfl⟩⟩
theorem endL_skip (h : List Ev) (t : Int) (k : Nat) (he : endL h t k = none) (hn : ¬ endB (ev h k) t) : endL h t (k + 1) = none := by
  rw [endL_none] at he ⊢
  intro j hj
  rcases Nat.lt_or_ge j k with h' | h'
  · exact he j h'
  · obtain rfl : j = k := by omega
    exact hn
theorem fstL_old (h : List Ev) (t : Int) (k f : Nat) (he : fstL h t k = some f) : fstL h t (k + 1) = some f := by
  rw [fstL_some] at he ⊢
  exact ⟨by omega, he.2⟩
theorem fstL_new (h : List Ev) (t : Int) (k : Nat) (he : fstL h t k = none) (hx : (ev h k).2.1 = t) : fstL h t (k + 1) = some k := by
  rw [fstL_none] at he
  rw [fstL_some]
  exact ⟨by omega, hx, he⟩
theorem fstL_skip (h : List Ev) (t : Int) (k : Nat) (he : fstL h t k = none) (hx : (ev h k).2.1 ≠ t) : fstL h t (k + 1) = none := by
  rw [fstL_none] at he ⊢
  intro j hj
  rcases Nat.lt_or_ge j k with h' | h'
  · exact he j h'
  · obtain rfl : j = k := by omega
    exact hx
theorem fstL_mono (h : List Ev) (t : Int) (k n f : Nat) (hk : k ≤ n) (he : fstL h t k = some f) : fstL h t n = some f := by
  rw [fstL_some] at he ⊢
  exact ⟨by omega, he.2⟩
theorem fd_skip {h : List Ev} {t : Int} {k : Nat} {L : Lf} {th : Bool} (hf : FdI h t k L th) (hx : (ev h k).2.1 ≠ t) : FdI h t (k + 1) L th := by
  obtain ⟨h1, h2⟩ := hf
  refine ⟨endL_skip h t k h1 (fun hh => hx hh.1), ?_⟩
  rcases h2 with ⟨a, b, c⟩ | ⟨f, a, b, c⟩
  · exact Or.inl ⟨fstL_skip h t k a hx, b, c⟩
  · exact Or.inr ⟨f, fstL_old h t k f a, b, c⟩
theorem fd_new {h : List Ev} {t : Int} {k : Nat} {L : Lf} (hf : FdI h t k L false) (hx : (ev h k).2.1 = t) (hn : ¬ ((ev h k).1 = 4 ∨ (ev h k).1 = 5)) : FdI h t (k + 1) (t, k, h.length, false) true := by
  obtain ⟨h1, h2⟩ := hf
  refine ⟨endL_skip h t k h1 (fun hh => hn hh.2), ?_⟩
  rcases h2 with ⟨a, b, c⟩ | ⟨f, a, b, c⟩
  · exact Or.inr ⟨k, fstL_new h t k a hx, rfl, rfl⟩
  · cases b
theorem fd_old {h : List Ev} {t : Int} {k : Nat} {L : Lf} (hf : FdI h t k L true) (hn : ¬ ((ev h k).1 = 4 ∨ (ev h k).1 = 5)) : FdI h t (k + 1) L true := by
  obtain ⟨h1, h2⟩ := hf
  refine ⟨endL_skip h t k h1 (fun hh => hn hh.2), ?_⟩
  rcases h2 with ⟨a, b, c⟩ | ⟨f, a, b, c⟩
  · cases b
  · exact Or.inr ⟨f, fstL_old h t k f a, rfl, c⟩
theorem fd_end {h : List Ev} {t : Int} {k : Nat} (he : endL h t k = none) (hk : k < h.length) (hx : (ev h k).2.1 = t) (hn : (ev h k).1 = 4 ∨ (ev h k).1 = 5) (f : Nat) (hf : fstL h t (k + 1) = some f) : findL h t = some (t, f, k, decide ((ev h k).1 = 4)) := by
  unfold findL
  rw [fstL_mono h t (k + 1) h.length f (by omega) hf, (endL_some h t h.length k).2 ⟨hk, ⟨hx, hn⟩, (endL_none h t k).1 he⟩]
theorem fd_end_new {h : List Ev} {t : Int} {k : Nat} {L : Lf} (hf : FdI h t k L false) (hk : k < h.length) (hx : (ev h k).2.1 = t) (hn : (ev h k).1 = 4 ∨ (ev h k).1 = 5) : findP h t = ((t, k, k, decide ((ev h k).1 = 4)), true) := by
  obtain ⟨h1, h2⟩ := hf
  rcases h2 with ⟨a, b, c⟩ | ⟨f, a, b, c⟩
  · exact findP_of (fd_end h1 hk hx hn k (fstL_new h t k a hx))
  · cases b
theorem fd_end_old {h : List Ev} {t : Int} {k : Nat} {L : Lf} (hf : FdI h t k L true) (hk : k < h.length) (hx : (ev h k).2.1 = t) (hn : (ev h k).1 = 4 ∨ (ev h k).1 = 5) : findP h t = ((L.1, L.2.1, k, decide ((ev h k).1 = 4)), true) := by
  obtain ⟨h1, h2⟩ := hf
  rcases h2 with ⟨a, b, c⟩ | ⟨f, a, b, c⟩
  · cases b
  · rw [c]
    exact findP_of (fd_end h1 hk hx hn f (fstL_old h t k f a))
theorem fd_done {h : List Ev} {t : Int} {L : Lf} {th : Bool} (hf : FdI h t h.length L th) : findP h t = (L, th) := by
  obtain ⟨h1, h2⟩ := hf
  unfold findP findL
  rcases h2 with ⟨a, b, c⟩ | ⟨f, a, b, c⟩
  · rw [a, b, c]
  · rw [a, h1, b, c]
end Go.Proofs.Ytljgflgfcbmgiaa
namespace Go.Proofs.Ytljgflgfcbmgiaa
set_option maxRecDepth 100000
open Go.RowKit
set_option linter.unusedVariables false
theorem life_comm (h : List Ev) (t : Int) : (∃ e f, commL h t = some e ∧ findP h t = ((t, f, e, true), true)) ∨ (commL h t = none ∧ (findP h t).1.2.2.2 = false) := by
  cases hc : commL h t with
  | some e =>
    obtain ⟨f, hf⟩ := comm_find h t e hc
    exact .inl ⟨e, f, rfl, findP_of hf⟩
  | none =>
    refine .inr ⟨rfl, ?_⟩
    unfold findP
    cases hf : findL h t with
    | none => rfl
    | some x =>
      obtain ⟨t', f, e, b⟩ := x
      cases b with
      | false => rfl
      | true =>
        have := (find_comm h t 0 f e t' hf).2
        rw [hc] at this
        cases this
theorem cnt_find (h : List Ev) (i : Nat) (hi : i < h.length) (hk : (ev h i).1 = 2) : countsB h i = ((findP h (ev h i).2.1).1.2.2.2 && decide (i < (findP h (ev h i).2.1).1.2.2.1)) := by
  unfold countsB
  rw [decide_eq_true hi, decide_eq_true hk]
  rcases life_comm h (ev h i).2.1 with ⟨e, f, h1, h2⟩ | ⟨h1, h2⟩
  · rw [h1, h2]; simp
  · rw [h1, h2]; simp
theorem find_txn (h : List Ev) (i : Nat) (hi : i < h.length) : (findP h (ev h i).2.1).1.1 = (ev h i).2.1 := by
  obtain ⟨x, hx⟩ := find_has h i hi
  rw [findP_of hx]
  unfold findL at hx
  cases h1 : fstL h (ev h i).2.1 h.length with
  | none => rw [h1] at hx; cases hx
  | some f' =>
    rw [h1] at hx
    simp only at hx
    cases h2 : endL h (ev h i).2.1 h.length with
    | none => rw [h2] at hx; simp only [Option.some.injEq] at hx; rw [← hx]
    | some e' => rw [h2] at hx; simp only [Option.some.injEq] at hx; rw [← hx]
/-- What is wrong with a read ahead of which its transaction wrote nothing of its key. -/
def ofwL (h : List Ev) (i : Nat) : Bd :=
    if (ev h i).2.2.2 = [] then (0, 0, 0) else
    match writerL h (ev h i).2.2.1 (ev h i).2.2.2 with
    | none => (0, 0, 0)
    | some w =>
      if (ev h w).2.1 = (ev h i).2.1 then (4, (i : Int), (w : Int)) else
      match commL h (ev h w).2.1 with
      | none => (1, (i : Int), (w : Int))
      | some e => if lastN h (ev h w).2.1 (ev h i).2.2.1 (min h.length e) = some w then (0, 0, 0) else (2, (i : Int), oI (lastN h (ev h w).2.1 (ev h i).2.2.1 (min h.length e)))
theorem at_ofw (h : List Ev) (i : Nat) (hc : countsB h i = true) (hl : lastN h (ev h i).2.1 (ev h i).2.2.1 i = none) : atL h i = ofwL h i := by
  unfold atL ofwL
  rw [if_neg (by rw [hc]; simp), hl]
  (try rfl)
theorem last_min (h : List Ev) (t : Int) (key : List UInt8) (e : Nat) : lastL h t key (e : Int) = lastN h t key (min h.length e) := by
  unfold lastL
  rw [Int.toNat_natCast]
theorem oI_inj {a : Option Nat} {u : Nat} : oI a = (u : Int) ↔ a = some u := by
  cases a with
  | none => simp only [oI]; constructor; intro h; omega; intro h; cases h
  | some k => simp only [oI, Option.some.injEq]; omega
end Go.Proofs.Ytljgflgfcbmgiaa
