/-
  Meters, in lists, and as values.
-/
import Derived.Test.YthopjpjloeaamaaZBoxes
import Derived.Test.YthopjpjloeaamaaZRecs
import Derived.Laws.StructEq
namespace Go.Proofs.Ythopjpjloeaamaa
set_option maxRecDepth 100000
open Go.RowKit
set_option linter.unusedVariables false
/-- A meter: when it was last used, what is left. -/
abbrev Mt := Int × Int
def leftM (m : Mt) (now : Int) : Int := if m.1 < now then 150 else m.2
def chgM (m : Mt) (now c : Int) : Mt × Int := if c < 0 then (m, 1) else if leftM m now < c then (m, 12) else ((max m.1 now, leftM m now - c), 0)
def endM (now : Int) : Mt → List Int → Mt
  | m, [] => m
  | m, c :: l => endM now (chgM m now c).1 l
def spnM (now : Int) : Mt → List Int → List Bool
  | _, [] => []
  | m, c :: l => decide ((chgM m now c).2 = 0) :: spnM now (chgM m now c).1 l
theorem endM_snoc (now c : Int) : ∀ (m : Mt) (l : List Int), endM now m (l ++ [c]) = (chgM (endM now m l) now c).1
  | m, [] => rfl
  | m, x :: l => by rw [List.cons_append, endM, endM, endM_snoc now c _ l]
theorem spnM_snoc (now c : Int) : ∀ (m : Mt) (l : List Int), spnM now m (l ++ [c]) = spnM now m l ++ [decide ((chgM (endM now m l) now c).2 = 0)]
  | m, [] => rfl
  | m, x :: l => by rw [List.cons_append, spnM, spnM, endM, spnM_snoc now c _ l, List.cons_append]
theorem spnM_length (now : Int) : ∀ (m : Mt) (l : List Int), (spnM now m l).length = l.length
  | m, [] => rfl
  | m, x :: l => by rw [spnM, List.length_cons, List.length_cons, spnM_length now _ l]
theorem spnM_take (now : Int) : ∀ (m : Mt) (l : List Int) (k : Nat), spnM now m (l.take k) = (spnM now m l).take k
  | m, l, 0 => by simp [spnM]
  | m, [], k + 1 => by simp [spnM]
  | m, x :: l, k + 1 => by rw [List.take_succ_cons, spnM, spnM, List.take_succ_cons, spnM_take now _ l k]
theorem endM_at {l : List Int} {k : Nat} (h : k < l.length) (now : Int) (m : Mt) : endM now m (l.take (k + 1)) = (chgM (endM now m (l.take k)) now l[k]).1 := by
  rw [List.take_succ_eq_append_getElem h, endM_snoc]
theorem spnM_at {l : List Int} {k : Nat} (h : k < l.length) (now : Int) (m : Mt) : spnM now m (l.take (k + 1)) = spnM now m (l.take k) ++ [decide ((chgM (endM now m (l.take k)) now l[k]).2 = 0)] := by
  rw [List.take_succ_eq_append_getElem h, spnM_snoc]
/-- A meter that a program may hold. -/
def goodM (m : Mt) : Prop := (0 ≤ m.1 ∧ m.1 ≤ 18446744073709551615) ∧ (-9223372036854775808 ≤ m.2 ∧ m.2 ≤ 9223372036854775807)
theorem leftM_good {m : Mt} (h : goodM m) (now : Int) : -9223372036854775808 ≤ leftM m now ∧ leftM m now ≤ 9223372036854775807 := by
  unfold goodM at h
  unfold leftM
  split <;> omega
theorem chgM_good {m : Mt} (h : goodM m) (now c : Int) (hn : 0 ≤ now ∧ now ≤ 18446744073709551615) : goodM (chgM m now c).1 := by
  have h2 := leftM_good h now
  unfold chgM
  split
  · exact h
  · split
    · exact h
    · unfold goodM at h ⊢
      simp only
      omega
theorem endM_good (now : Int) (hn : 0 ≤ now ∧ now ≤ 18446744073709551615) : ∀ (m : Mt) (l : List Int), goodM m → goodM (endM now m l)
  | m, [], h => h
  | m, c :: l, h => endM_good now hn _ l (chgM_good h now c hn)
/-- At one time: what is taken comes off what is left. -/
theorem endM_left (now : Int) : ∀ (m : Mt) (l : List Int), 0 ≤ leftM m now → 0 ≤ leftM (endM now m l) now ∧ leftM (endM now m l) now ≤ leftM m now
  | m, [], h => ⟨h, Int.le_refl _⟩
  | m, c :: l, h => by
    have hh : 0 ≤ leftM (chgM m now c).1 now ∧ leftM (chgM m now c).1 now ≤ leftM m now := by
      unfold chgM
      split
      · exact ⟨h, Int.le_refl _⟩
      · split
        · exact ⟨h, Int.le_refl _⟩
        · have : leftM (max m.1 now, leftM m now - c) now = leftM m now - c := by
            show (if max m.1 now < now then 150 else leftM m now - c) = _
            rw [if_neg (by omega)]
          simp only
          rw [this]
          omega
    have := endM_left now (chgM m now c).1 l hh.1
    rw [endM]
    omega
def mtC (m : Mt) : Array Value := #[.int .u64 m.1, .int .i64 m.2]
abbrev mtV (m : Mt) : Value := .agg (mtC m)
theorem size_mt : (Try.prog.info? 24).map (·.size) = some 2 := by kernel_rfl
theorem results_mt {fn : Func} {p : Tmp} (h : fn.results = #[.cell p 24]) (tmps : Array Value) (w : World) (g : Nat) (cs : Array Value) (hs : cs.size = 2)
    (hp : tmps.getD p undef = .pointer (some ⟨g, 0, none⟩)) (hg : SBox w g 24 cs) : (results fn tmps).run Try.prog w = .ok (.agg cs) w := by
  have hp' : tmps[p]?.getD undef = .pointer (some ⟨g, 0, none⟩) := by simpa using hp
  simp [results, h, hp', asAddr, run_loadVar_row w g 24 24 cs (0, 0) _ hg Try.underlying24 rfl (by rw [size_mt, hs])]
theorem results_mt2 {fn : Func} {p q : Tmp} (h : fn.results = #[.cell p 24, .tmp q]) (tmps : Array Value) (w : World) (g : Nat) (cs : Array Value) (hs : cs.size = 2)
    (hp : tmps.getD p undef = .pointer (some ⟨g, 0, none⟩)) (hg : SBox w g 24 cs) : (results fn tmps).run Try.prog w = .ok (.tuple #[.agg cs, tmps.getD q undef]) w :=
  results_row_tmp h tmps w g 24 cs (0, 0) _ hp hg Try.underlying24 rfl (by rw [size_mt, hs])
theorem mbel1 (w : World) (A : Obj) : Below w.heap.size w (w.alloc A) := (Below.refl _ w).alloc (Nat.le_refl _) A
theorem mbel2 (w : World) (A B : Obj) : Below w.heap.size w ((w.alloc A).alloc B) := ((Below.refl _ w).alloc (Nat.le_refl _) A).alloc (by simp) B
theorem msbox2 (w : World) (A : Obj) (t : TypeId) (cs : Array Value) : SBox ((w.alloc A).alloc (.cells cs t)) (w.heap.size + 1) t cs := by
  have := SBox.new (w.alloc A) t cs
  rwa [World.size_alloc] at this
theorem SBox.put2 {W : World} {B t : Nat} {a b : Value} (h : SBox W B t #[a, b]) (a' b' : Value) : SBox ((W.setCell ⟨B, 0, none⟩ a').setCell ⟨B, 1, none⟩ b') B t #[a', b'] := (h.set 0 a').set 1 b'
theorem bel_put2 {n : Nat} {w W : World} {B : Nat} (h : Below n w W) (hb : n ≤ B) (a' b' : Value) : Below n w ((W.setCell ⟨B, 0, none⟩ a').setCell ⟨B, 1, none⟩ b') :=
  (h.setCell (p := ⟨B, 0, none⟩) hb _).setCell (p := ⟨B, 1, none⟩) hb _
theorem SBox.other2 {W : World} {g k t : Nat} {cs : Array Value} (h : SBox W g t cs) (hne : k ≠ g) (a b : Value) : SBox ((W.setCell ⟨k, 0, none⟩ a).setCell ⟨k, 1, none⟩ b) g t cs := (h.other k 0 a hne).other k 1 b hne
theorem run_mteql (w : World) (a b c d : Int) : Sem.run Try.prog (binOp .eql 24 (.agg #[.int .u64 a, .int .i64 b]) (.agg #[.int .u64 c, .int .i64 d])) w = .ok (.bool (decide ((a, b) = (c, d)))) w := by
  rw [run_eql_struct]
  have : Sem.run Try.prog (Op.equalIn 10000 24 (.agg #[.int .u64 a, .int .i64 b]) (.agg #[.int .u64 c, .int .i64 d])) w = .ok (decide ((a, b) = (c, d))) w := by
    by_cases h0 : a = c <;> by_cases h1 : b = d <;> simp [go_sem, h0, h1]
  rw [this]
  rfl
end Go.Proofs.Ythopjpjloeaamaa
