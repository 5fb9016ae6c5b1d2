/-
  Tapes as values, and what is done to them, in lists: of no program but the type.
  What tape.New, Arm, laid, powered and Sync answer.
  Forks of a region that draws its order; two tapes made by calls in one statement, whose blocks come into being in any order beside the calls.
-/
import Derived.Test.YtngllioidfffdaaGA
import Derived.Test.YtngllioidfffdaaGC
import Derived.Test.YtngllioidfffdaaGB
import Derived.Laws.StructEq
import Derived.Deep.CutRange
namespace Go.Proofs.Ytngllioidfffdaa
set_option maxRecDepth 100000
open Go.RowKit
set_option linter.unusedVariables false
/-- A tape: what is sure, what waits, the room, the fuse, whether it is off. -/
abbrev Tp := List UInt8 × List UInt8 × Int × Int × Bool
def tpC (t : Tp) : Array Value := #[.string ⟨t.1.toArray⟩, .string ⟨t.2.1.toArray⟩, .int .i64 t.2.2.1, .int .i64 t.2.2.2.1, .bool t.2.2.2.2]
abbrev tpV (t : Tp) : Value := .agg (tpC t)
def newT (n : Int) : Tp × Int := if n < 0 then (([], [], 0, 0, false), 1) else (([], [], n, -1, false), 0)
def armT (t : Tp) (n : Int) : Tp := if t.2.2.2.2 = true then t else (t.1, t.2.1, t.2.2.1, if n < 0 then -1 else n, false)
def laidT (t : Tp) (b : List UInt8) : Tp := (t.1, t.2.1 ++ b, t.2.2.1 - b.length, if 0 ≤ t.2.2.2.1 then t.2.2.2.1 - b.length else t.2.2.2.1, t.2.2.2.2)
def writeT (t : Tp) (rec : List UInt8) : Tp × Int :=
  if t.2.2.2.2 = true then (t, 6) else if 65535 < rec.length then (t, 4)
  else if t.2.2.1 < ((Lm.lenL rec.length ++ rec).length : Int) then (t, 5)
  else if 0 ≤ t.2.2.2.1 ∧ t.2.2.2.1 < ((Lm.lenL rec.length ++ rec).length : Int) then
    ((t.1, t.2.1 ++ (Lm.lenL rec.length ++ rec).take t.2.2.2.1.toNat, t.2.2.1 - t.2.2.2.1, 0, true), 6)
  else (laidT t (Lm.lenL rec.length ++ rec), 0)
def syncT (t : Tp) : Tp × Int := if t.2.2.2.2 = true then (t, 6) else ((t.1 ++ t.2.1, [], t.2.2.1, t.2.2.2.1, false), 0)
def readT (t : Tp) : List (List UInt8) := Lm.recsL (t.1 ++ t.2.1)
def keptT (t : Tp) (n : Int) : List UInt8 := Lm.body (Lm.recsL (t.1 ++ t.2.1.take n.toNat))
def crashT (t : Tp) (n : Int) : Tp := (keptT t n, [], wrap64 (wrap64 (t.2.2.1 + ((t.1.length + t.2.1.length : Nat) : Int)) - ((keptT t n).length : Int)), -1, false)
/-- A tape that a program may hold: numbers of 64 bits; not more bytes than a world holds. -/
def goodT (t : Tp) : Prop := (-9223372036854775808 ≤ t.2.2.1 ∧ t.2.2.1 ≤ 9223372036854775807) ∧ (-9223372036854775808 ≤ t.2.2.2.1 ∧ t.2.2.2.1 ≤ 9223372036854775807) ∧ t.1.length ≤ 274877906944 ∧ t.2.1.length ≤ 274877906944
/-- What Write and Sync ask: numbers of 64 bits; texts that may lie in memory. -/
def goodW (t : Tp) : Prop := (-9223372036854775808 ≤ t.2.2.1 ∧ t.2.2.1 ≤ 9223372036854775807) ∧ (-9223372036854775808 ≤ t.2.2.2.1 ∧ t.2.2.2.1 ≤ 9223372036854775807) ∧ t.1.length ≤ 1125899906842624 ∧ t.2.1.length ≤ 1125899906842624
theorem goodT.w {t : Tp} (h : goodT t) : goodW t := ⟨h.1, h.2.1, Nat.le_trans h.2.2.1 (by decide), Nat.le_trans h.2.2.2 (by decide)⟩
theorem size_tp : (Try.prog.info? 23).map (·.size) = some 5 := by kernel_rfl
theorem results_tp {fn : Func} {p : Tmp} (h : fn.results = #[.cell p 23]) (tmps : Array Value) (w : World) (g : Nat) (cs : Array Value) (hs : cs.size = 5)
    (hp : tmps.getD p undef = .pointer (some ⟨g, 0, none⟩)) (hg : SBox w g 23 cs) : (results fn tmps).run Try.prog w = .ok (.agg cs) w := by
  have hp' : tmps[p]?.getD undef = .pointer (some ⟨g, 0, none⟩) := by simpa using hp
  simp [results, h, hp', asAddr, run_loadVar_row w g 23 23 cs (0, 0) _ hg Try.underlying23 rfl (by rw [size_tp, hs])]
theorem results_tp2 {fn : Func} {p q : Tmp} (h : fn.results = #[.cell p 23, .tmp q]) (tmps : Array Value) (w : World) (g : Nat) (cs : Array Value) (hs : cs.size = 5)
    (hp : tmps.getD p undef = .pointer (some ⟨g, 0, none⟩)) (hg : SBox w g 23 cs) : (results fn tmps).run Try.prog w = .ok (.tuple #[.agg cs, tmps.getD q undef]) w :=
  results_row_tmp h tmps w g 23 cs (0, 0) _ hp hg Try.underlying23 rfl (by rw [size_tp, hs])
theorem sbox2 (w : World) (A : Obj) (t : TypeId) (cs : Array Value) : SBox ((w.alloc A).alloc (.cells cs t)) (w.heap.size + 1) t cs := by
  have := SBox.new (w.alloc A) t cs
  rwa [World.size_alloc] at this
theorem bel1 (w : World) (A : Obj) : Below w.heap.size w (w.alloc A) := (Below.refl _ w).alloc (Nat.le_refl _) A
theorem bel2 (w : World) (A B : Obj) : Below w.heap.size w ((w.alloc A).alloc B) := ((Below.refl _ w).alloc (Nat.le_refl _) A).alloc (by simp) B
theorem SBox.put5 {W : World} {B t : Nat} {a b c d e : Value} (h : SBox W B t #[a, b, c, d, e]) (a' b' c' d' e' : Value) :
    SBox (((((W.setCell ⟨B, 0, none⟩ a').setCell ⟨B, 1, none⟩ b').setCell ⟨B, 2, none⟩ c').setCell ⟨B, 3, none⟩ d').setCell ⟨B, 4, none⟩ e') B t #[a', b', c', d', e'] :=
  ((((h.set 0 a').set 1 b').set 2 c').set 3 d').set 4 e'
theorem bel_put5 {n : Nat} {w W : World} {B : Nat} (h : Below n w W) (hb : n ≤ B) (a' b' c' d' e' : Value) :
    Below n w (((((W.setCell ⟨B, 0, none⟩ a').setCell ⟨B, 1, none⟩ b').setCell ⟨B, 2, none⟩ c').setCell ⟨B, 3, none⟩ d').setCell ⟨B, 4, none⟩ e') :=
  ((((h.setCell (p := ⟨B, 0, none⟩) hb _).setCell (p := ⟨B, 1, none⟩) hb _).setCell (p := ⟨B, 2, none⟩) hb _).setCell (p := ⟨B, 3, none⟩) hb _).setCell (p := ⟨B, 4, none⟩) hb _
theorem run_tpeql (w : World) (s p s' p' : List UInt8) (r f r' f' : Int) (o o' : Bool) : Sem.run Try.prog (binOp .eql 23 (.agg #[.string ⟨s.toArray⟩, .string ⟨p.toArray⟩, .int .i64 r, .int .i64 f, .bool o]) (.agg #[.string ⟨s'.toArray⟩, .string ⟨p'.toArray⟩, .int .i64 r', .int .i64 f', .bool o'])) w = .ok (.bool (decide ((s, p, r, f, o) = (s', p', r', f', o')))) w := by
  rw [run_eql_struct]
  have : Sem.run Try.prog (Op.equalIn 10000 23 (.agg #[.string ⟨s.toArray⟩, .string ⟨p.toArray⟩, .int .i64 r, .int .i64 f, .bool o]) (.agg #[.string ⟨s'.toArray⟩, .string ⟨p'.toArray⟩, .int .i64 r', .int .i64 f', .bool o'])) w = .ok (decide ((s, p, r, f, o) = (s', p', r', f', o'))) w := by
    by_cases h0 : s = s' <;> by_cases h1 : p = p' <;> by_cases h2 : r = r' <;> by_cases h3 : f = f' <;> by_cases h4 : o = o' <;> simp [go_sem, h0, h1, h2, h3, h4]
  rw [this]
  rfl
end Go.Proofs.Ytngllioidfffdaa
namespace Go.Proofs.Ytngllioidfffdaa
set_option maxRecDepth 100000
open Go.RowKit
set_option linter.unusedVariables false
attribute [local go_sem] ba_size ba_append ba_extract
theorem pnew16_any (n : Int) (w : World) :
    Calls Try.prog 38 #[.int .i64 n] w fun e w' => e = .returned (.tuple #[tpV (newT n).1, .int .i64 (newT n).2]) ∧ Below w.heap.size w w' := by
  unfold newT tpV tpC
  by_cases h : n < 0
  · rw [if_pos h]
    go_enter Try.func38, Try.ntmps38
    go_wp2_with fail
    exact bodyPost_ret (results_tp2 Try.results38 _ _ w.heap.size _ rfl rfl (SBox.new w _ _)) rfl ⟨rfl, bel1 w _⟩
  · rw [if_neg h]
    go_enter Try.func38, Try.ntmps38
    go_wp2_with fail
    exact bodyPost_ret (results_tp2 Try.results38 _ _ w.heap.size _ rfl rfl (SBox.new w _ _)) rfl ⟨rfl, bel1 w _⟩
theorem parm16_any (s p : List UInt8) (r f : Int) (o : Bool) (n : Int) (w : World) :
    Calls Try.prog 40 #[tpV (s, p, r, f, o), .int .i64 n] w fun e w' => e = .returned (tpV (armT (s, p, r, f, o) n)) ∧ Below w.heap.size w w' := by
  unfold armT tpV tpC
  cases o
  · rw [if_neg (by simp)]
    by_cases h : n < 0
    · rw [if_pos h]
      have h1 : n ≤ -1 := by omega
      have h2 : (-1 < n) = False := eq_false (by omega)
      have h3 : max n (-1) = -1 := by omega
      go_enter Try.func40, Try.ntmps40
      go_wp2_with fail
      all_goals exact bodyPost_ret (results_tp Try.results40 _ _ (w.heap.size + 1) _ rfl rfl (sbox2 _ _ _ _)) rfl ⟨by first | rfl | (exfalso; omega) | (simp; omega), bel2 w _ _⟩
    · rw [if_neg h]
      have h1 : -1 < n := by omega
      have h3 : max n (-1) = n := by omega
      go_enter Try.func40, Try.ntmps40
      go_wp2_with fail
      all_goals exact bodyPost_ret (results_tp Try.results40 _ _ (w.heap.size + 1) _ rfl rfl (sbox2 _ _ _ _)) rfl ⟨by first | rfl | (exfalso; omega) | (simp; omega), bel2 w _ _⟩
  · rw [if_pos rfl]
    go_enter Try.func40, Try.ntmps40
    go_wp2_with fail
    exact bodyPost_ret (results_tp Try.results40 _ _ (w.heap.size + 1) _ rfl rfl (sbox2 _ _ _ _)) rfl ⟨rfl, bel2 w _ _⟩
theorem plaid16_any (s p b : List UInt8) (r f : Int) (o : Bool) (hp : p.length ≤ 1125899906842624) (hb : b.length ≤ 65538) (hr : (b.length : Int) ≤ r ∧ r ≤ 9223372036854775807) (hf : -9223372036854775808 ≤ f ∧ f ≤ 9223372036854775807) (w : World) :
    Calls Try.prog 73 #[tpV (s, p, r, f, o), .string ⟨b.toArray⟩] w fun e w' => e = .returned (tpV (laidT (s, p, r, f, o) b)) ∧ Below w.heap.size w w' := by
  unfold laidT tpV tpC
  have z1 : p.length + b.length ≤ 9223372036854775807 := by omega
  have z2 : wrap64 (r - (b.length : Int)) = r - (b.length : Int) := by unfold wrap64; omega
  by_cases h : 0 ≤ f
  · rw [if_pos h]
    have z3 : wrap64 (f - (b.length : Int)) = f - (b.length : Int) := by unfold wrap64; omega
    go_enter Try.func73, Try.ntmps73
    go_wp2_with fail
    exact bodyPost_ret (results_tp Try.results73 _ _ (w.heap.size + 1) _ rfl rfl (sbox2 _ _ _ _)) rfl ⟨rfl, bel2 w _ _⟩
  · rw [if_neg h]
    go_enter Try.func73, Try.ntmps73
    go_wp2_with fail
    exact bodyPost_ret (results_tp Try.results73 _ _ (w.heap.size + 1) _ rfl rfl (sbox2 _ _ _ _)) rfl ⟨rfl, bel2 w _ _⟩
def powT (f n : Int) : Int := if f < 0 then n else if f < n then f else n
theorem ppow16_any (s p : List UInt8) (r f : Int) (o : Bool) (n : Int) (w : World) :
    Calls Try.prog 74 #[tpV (s, p, r, f, o), .int .i64 n] w fun e w' => e = .returned (.int .i64 (powT f n)) ∧ Below w.heap.size w w' := by
  unfold powT tpV tpC
  by_cases h : f < 0
  · rw [if_pos h]
    go_enter Try.func74, Try.ntmps74
    go_wp2_with fail
    go_ret
    exact ⟨rfl, bel1 w _⟩
  · rw [if_neg h]
    by_cases h2 : f < n
    · rw [if_pos h2]
      have h3 : min n f = f := by omega
      have h4 : f ≤ n := by omega
      have h5 : decide (n < f) = false := decide_eq_false (by omega)
      go_enter Try.func74, Try.ntmps74
      go_wp2_with fail
      all_goals go_ret
      all_goals exact ⟨by first | rfl | (exfalso; omega) | (simp; omega), bel1 w _⟩
    · rw [if_neg h2]
      have h3 : min n f = n := by omega
      have h4 : n ≤ f := by omega
      go_enter Try.func74, Try.ntmps74
      go_wp2_with fail
      all_goals go_ret
      all_goals exact ⟨by first | rfl | (exfalso; omega) | (simp; omega), bel1 w _⟩
theorem psync16_any (s p : List UInt8) (r f : Int) (o : Bool) (hs : s.length ≤ 1125899906842624) (hp : p.length ≤ 1125899906842624) (w : World) :
    Calls Try.prog 60 #[tpV (s, p, r, f, o)] w fun e w' => e = .returned (.tuple #[tpV (syncT (s, p, r, f, o)).1, .int .i64 (syncT (s, p, r, f, o)).2]) ∧ Below w.heap.size w w' := by
  unfold syncT tpV tpC
  have z1 : s.length + p.length ≤ 9223372036854775807 := by omega
  cases o
  · rw [if_neg (by simp)]
    go_enter Try.func60, Try.ntmps60
    go_wp2_with fail
    exact bodyPost_ret (results_tp2 Try.results60 _ _ (w.heap.size + 1) _ rfl rfl (sbox2 _ _ _ _)) rfl ⟨rfl, bel2 w _ _⟩
  · rw [if_pos rfl]
    go_enter Try.func60, Try.ntmps60
    go_wp2_with fail
    exact bodyPost_ret (results_tp2 Try.results60 _ _ (w.heap.size + 1) _ rfl rfl (sbox2 _ _ _ _)) rfl ⟨rfl, bel2 w _ _⟩
end Go.Proofs.Ytngllioidfffdaa
namespace Go.Proofs.Ytngllioidfffdaa
set_option maxRecDepth 100000
open Go.RowKit
set_option linter.unusedVariables false
section
variable {P : Program} {md : Region.Mode} {ops : Array Oper} {Q : Exit → Act → World → Prop}
theorem fork2 {C : World → Prop} {d i j : Nat} {o1 o2 : Oper} {f : Nat} {listed : Array Bool} {a : Act} {w : World} (hr : Region.ready md ops listed = [i, j]) (hdl : listed.getD d false = false) (hC : C w) (h1 : ops[i]? = some o1) (h2 : ops[j]? = some o2)
    (k1 : ∀ K : Act → World → Prop, (∀ a w, wpAnyC C d P md ops Q f (listed.setIfInBounds i true) a w → K a w) → wpList P ops (Exit.then K Q) [o1] a w)
    (k2 : ∀ K : Act → World → Prop, (∀ a w, wpAnyC C d P md ops Q f (listed.setIfInBounds j true) a w → K a w) → wpList P ops (Exit.then K Q) [o2] a w) : wpAnyC C d P md ops Q (f + 1) listed a w := by
  refine .inr ⟨hdl, hC, fun h0 => (by rw [hr] at h0; cases h0), fun x hx => ?_⟩
  rw [hr] at hx
  have hx' : x = i ∨ x = j := by simpa using hx
  rcases hx' with rfl | rfl
  · exact wpOp_of_list h1 (k1 _ fun _ _ h => h)
  · exact wpOp_of_list h2 (k2 _ fun _ _ h => h)
theorem fork3 {C : World → Prop} {d i j k : Nat} {o1 o2 o3 : Oper} {f : Nat} {listed : Array Bool} {a : Act} {w : World} (hr : Region.ready md ops listed = [i, j, k]) (hdl : listed.getD d false = false) (hC : C w) (h1 : ops[i]? = some o1) (h2 : ops[j]? = some o2) (h3 : ops[k]? = some o3)
    (k1 : ∀ K : Act → World → Prop, (∀ a w, wpAnyC C d P md ops Q f (listed.setIfInBounds i true) a w → K a w) → wpList P ops (Exit.then K Q) [o1] a w)
    (k2 : ∀ K : Act → World → Prop, (∀ a w, wpAnyC C d P md ops Q f (listed.setIfInBounds j true) a w → K a w) → wpList P ops (Exit.then K Q) [o2] a w)
    (k3 : ∀ K : Act → World → Prop, (∀ a w, wpAnyC C d P md ops Q f (listed.setIfInBounds k true) a w → K a w) → wpList P ops (Exit.then K Q) [o3] a w) : wpAnyC C d P md ops Q (f + 1) listed a w := by
  refine .inr ⟨hdl, hC, fun h0 => (by rw [hr] at h0; cases h0), fun x hx => ?_⟩
  rw [hr] at hx
  have hx' : x = i ∨ x = j ∨ x = k := by simpa using hx
  rcases hx' with rfl | rfl | rfl
  · exact wpOp_of_list h1 (k1 _ fun _ _ h => h)
  · exact wpOp_of_list h2 (k2 _ fun _ _ h => h)
  · exact wpOp_of_list h3 (k3 _ fun _ _ h => h)
end
theorem SBox.other5 {W : World} {g k t : Nat} {cs : Array Value} (h : SBox W g t cs) (hne : k ≠ g) (a b c d e : Value) :
    SBox (((((W.setCell ⟨k, 0, none⟩ a).setCell ⟨k, 1, none⟩ b).setCell ⟨k, 2, none⟩ c).setCell ⟨k, 3, none⟩ d).setCell ⟨k, 4, none⟩ e) g t cs :=
  ((((h.other k 0 a hne).other k 1 b hne).other k 2 c hne).other k 3 d hne).other k 4 e hne
abbrev zT16 : Array Value := #[.string ⟨#[]⟩, .string ⟨#[]⟩, .int .i64 0, .int .i64 0, .bool false]
structure TpS (w W : World) (c3 : Array Value) (o8 o9 : Option Nat) : Prop where
  bel : Below w.heap.size w W
  bx : SBox W w.heap.size 23 c3
  br : SBox W (w.heap.size + 1) 23 zT16
  x8 : ∀ b, o8 = some b → SBox W b 23 zT16 ∧ w.heap.size + 1 < b
  x9 : ∀ b, o9 = some b → SBox W b 23 zT16 ∧ w.heap.size + 1 < b
  ne : ∀ b c, o8 = some b → o9 = some c → b ≠ c
section
variable {w W W' : World} {c3 : Array Value} {o8 o9 : Option Nat}
theorem TpS.below (h : TpS w W c3 o8 o9) (hb : Below W.heap.size W W') : TpS w W' c3 o8 o9 :=
  ⟨bel_trans h.bel hb, h.bx.below hb, h.br.below hb, fun b e => ⟨(h.x8 b e).1.below hb, (h.x8 b e).2⟩, fun b e => ⟨(h.x9 b e).1.below hb, (h.x9 b e).2⟩, h.ne⟩
theorem TpS.alloc8 (h : TpS w W c3 none o9) : TpS w (W.alloc (.cells zT16 23)) c3 (some W.heap.size) o9 :=
  ⟨h.bel.alloc h.bel.size _, h.bx.alloc _, h.br.alloc _, fun b e => by cases e; exact ⟨SBox.new W _ _, h.br.lt⟩, fun b e => ⟨(h.x9 b e).1.alloc _, (h.x9 b e).2⟩, fun b c e1 e2 => by cases e1; exact fun e => absurd (h.x9 c e2).1.lt (by omega)⟩
theorem TpS.alloc9 (h : TpS w W c3 o8 none) : TpS w (W.alloc (.cells zT16 23)) c3 o8 (some W.heap.size) :=
  ⟨h.bel.alloc h.bel.size _, h.bx.alloc _, h.br.alloc _, fun b e => ⟨(h.x8 b e).1.alloc _, (h.x8 b e).2⟩, fun b e => by cases e; exact ⟨SBox.new W _ _, h.br.lt⟩, fun b c e1 e2 => by cases e2; exact fun e => absurd (h.x8 b e1).1.lt (by omega)⟩
end
def put5T (W : World) (k : Nat) (a b c d e : Value) : World := ((((W.setCell ⟨k, 0, none⟩ a).setCell ⟨k, 1, none⟩ b).setCell ⟨k, 2, none⟩ c).setCell ⟨k, 3, none⟩ d).setCell ⟨k, 4, none⟩ e
/-- One stored: the other is as it was. -/
structure TpO (w W : World) (c3 : Array Value) (b c : Nat) (x : Array Value) : Prop where
  bel : Below w.heap.size w W
  bx : SBox W w.heap.size 23 c3
  br : SBox W (w.heap.size + 1) 23 zT16
  x8 : SBox W b 23 x
  x9 : SBox W c 23 zT16
  l8 : w.heap.size + 1 < b
  l9 : w.heap.size + 1 < c
  ne : b ≠ c
/-- Both stored. -/
structure TpE (w W : World) (b c : Nat) (x y : Array Value) : Prop where
  bel : Below w.heap.size w W
  br : SBox W (w.heap.size + 1) 23 zT16
  x8 : SBox W b 23 x
  x9 : SBox W c 23 y
  l8 : w.heap.size + 1 < b
  l9 : w.heap.size + 1 < c
  ne : b ≠ c
theorem TpS.put {w W : World} {c3 : Array Value} {b c : Nat} (h : TpS w W c3 (some b) (some c)) (v0 v1 v2 v3 v4 : Value) :
    TpO w (put5T W b v0 v1 v2 v3 v4) c3 b c #[v0, v1, v2, v3, v4] := by
  obtain ⟨g1, g2⟩ := h.x8 b rfl
  obtain ⟨g3, g4⟩ := h.x9 c rfl
  exact ⟨bel_put5 h.bel (by omega) _ _ _ _ _, h.bx.other5 (by omega) _ _ _ _ _, h.br.other5 (by omega) _ _ _ _ _, g1.put5 _ _ _ _ _, g3.other5 (h.ne b c rfl rfl) _ _ _ _ _, g2, g4, h.ne b c rfl rfl⟩
theorem TpO.put {w W : World} {c3 : Array Value} {b c : Nat} {x : Array Value} (h : TpO w W c3 b c x) (v0 v1 v2 v3 v4 : Value) :
    TpE w (put5T W c v0 v1 v2 v3 v4) b c x #[v0, v1, v2, v3, v4] := by
  have h8 := h.l8
  have h9 := h.l9
  exact ⟨bel_put5 h.bel (by omega) _ _ _ _ _, h.br.other5 (by omega) _ _ _ _ _, h.x8.other5 (fun e => h.ne e.symm) _ _ _ _ _, h.x9.put5 _ _ _ _ _, h8, h9, h.ne⟩
theorem run_tpneq (w : World) (s p s' p' : List UInt8) (r f r' f' : Int) (o o' : Bool) : Sem.run Try.prog (binOp .neq 23 (.agg #[.string ⟨s.toArray⟩, .string ⟨p.toArray⟩, .int .i64 r, .int .i64 f, .bool o]) (.agg #[.string ⟨s'.toArray⟩, .string ⟨p'.toArray⟩, .int .i64 r', .int .i64 f', .bool o'])) w = .ok (.bool (!decide ((s, p, r, f, o) = (s', p', r', f', o')))) w := by
  rw [run_neq_struct]
  have : Sem.run Try.prog (Op.equalIn 10000 23 (.agg #[.string ⟨s.toArray⟩, .string ⟨p.toArray⟩, .int .i64 r, .int .i64 f, .bool o]) (.agg #[.string ⟨s'.toArray⟩, .string ⟨p'.toArray⟩, .int .i64 r', .int .i64 f', .bool o'])) w = .ok (decide ((s, p, r, f, o) = (s', p', r', f', o'))) w := by
    by_cases h0 : s = s' <;> by_cases h1 : p = p' <;> by_cases h2 : r = r' <;> by_cases h3 : f = f' <;> by_cases h4 : o = o' <;> simp [go_sem, h0, h1, h2, h3, h4]
  rw [this]
  rfl
end Go.Proofs.Ytngllioidfffdaa
