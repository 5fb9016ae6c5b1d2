/-
  The contracts of tapes, as a walk takes them: tapes cell by cell; rows of records.
  What cartouchelaw16.shown answers.
  Tapes in loops: what holds while one is written, in lists and in boxes.
  What is done to a tape, as a row; room, power and bytes while it is done: lists, and a row's cells.
  What was written on a tape, and what is sure of it: lists.
-/
import Derived.Test.YtngllioidfffdaaZP16Write
import Derived.Test.YtngllioidfffdaaZP16Crash
import Derived.Test.YtngllioidfffdaaGT
import Derived.Test.YtngllioidfffdaaGD
import Derived.Test.YtngllioidfffdaaGL
import Derived.Laws.AppendOwnNone
import Derived.Lib.Hide
namespace Go.Proofs.Ytngllioidfffdaa
set_option maxRecDepth 100000
open Go.RowKit
set_option linter.unusedVariables false
/-- A row of texts that lies at or above a block. -/
def Row16 (W : World) (B : Nat) (v : Value) (L : List (List UInt8)) : Prop := W.ownsRow B 9 1 v L.length (strV L)
section
variable {W W' : World} {B : Nat} {v : Value} {L : List (List UInt8)}
theorem Row16.below (h : Row16 W B v L) (b : Below W.heap.size W W') : Row16 W' B v L := owns_below h b
theorem Row16.low {B' : Nat} (h : Row16 W B v L) (b : B' ≤ B) : Row16 W B' v L := owns_low h b
theorem Row16.alloc (h : Row16 W B v L) (o : Obj) : Row16 (W.alloc o) B v L := h.below ((Below.refl _ W).alloc (Nat.le_refl _) o)
theorem Row16.set (h : Row16 W B v L) (k j : Nat) (hk : k < B) (u : Value) : Row16 (W.setCell ⟨k, j, none⟩ u) B v L :=
  owns_keep7 h u (fun e => by have := (h.lt k e.symm).1; omega)
theorem Row16.put5 (h : Row16 W B v L) (k : Nat) (hk : k < B) (a b c d e : Value) : Row16 (((((W.setCell ⟨k, 0, none⟩ a).setCell ⟨k, 1, none⟩ b).setCell ⟨k, 2, none⟩ c).setCell ⟨k, 3, none⟩ d).setCell ⟨k, 4, none⟩ e) B v L :=
  ((((h.set k 0 hk a).set k 1 hk b).set k 2 hk c).set k 3 hk d).set k 4 hk e
theorem Row16.txt (h : Row16 W B v L) (hn : L.length ≤ 140737488351232) (hl : ∀ t ∈ L, t.length ≤ 65535) : IsTxt W v L := IsTxt.own h hn (fun t ht => by have := hl t ht; omega)
theorem Row16.len (h : Row16 W B v L) : ∃ a c, v = .slice a L.length c ∧ L.length ≤ c ∧ c ≤ 9223372036854775807 := by
  rcases h.2 with ⟨rfl, h0⟩ | ⟨g, cap, cur, rfl, _, _, hc, hm, _⟩
  · exact ⟨none, 0, by rw [h0], by omega, by omega⟩
  · exact ⟨_, _, rfl, hc, by unfold maxLen at hm; omega⟩
theorem Row16.nil (W : World) (B : Nat) : Row16 W B (.slice none 0 0) [] := World.ownsRow_nil _ _ _ _
end
theorem Row16.src {W : World} {B g n c : Nat} {L : List (List UInt8)} (h : Row16 W B (.slice (some ⟨g, 0, none⟩) n c) L) : ∀ j u, (strV L)[j]? = some u → W.cell? ((⟨g, 0, none⟩ : Addr).add j) = some u := by
  intro j u hu
  obtain ⟨h1, h2⟩ := h
  rcases h2 with ⟨e, _⟩ | ⟨g', cap, cur, hv, hbg, hg, hnc, hcm, hcs, htake⟩
  · cases e
  · obtain ⟨rfl, rfl, rfl⟩ : g = g' ∧ n = L.length ∧ c = cap := by simpa using hv
    have hj := (List.getElem?_eq_some_iff.1 hu).1
    rw [strV_length] at hj
    have e : (⟨g, 0, none⟩ : Addr).add j = ⟨g, j, none⟩ := by unfold Addr.add; by_cases hj0 : j = 0 <;> simp [hj0]
    rw [e, Lib.cell_of_heap hg, ← Array.getElem?_toList, ← hu, ← htake, List.getElem?_take_of_lt (by omega)]
/-- A row appended to a row of the walk's own. -/
theorem app16 {w : World} {ops : Array Oper} {rest : List Oper} {o : Oper} {a : Act} {Q : Exit → Act → World → Prop} (hgd : o.guard = none) (s x : Operand)
    (ho : o.op = .call { callee := .builtin .append, args := #[s, x], argTypes := #[26, 26] }) (base : Nat) (v : Value) (L1 : List (List UInt8)) (hs : a.eval s = v) (hown : Row16 w base v L1)
    (B2 : Nat) (v2 : Value) (L2 : List (List UInt8)) (hx : a.eval x = v2) (hr : Row16 w B2 v2 L2) (hb : L1.length + L2.length ≤ 8796093022207) (hbase : base ≤ w.heap.size)
    (h : ∀ v' w', Row16 w' base v' (L1 ++ L2) → w.grownBy w' v.ownBlock → wpList Try.prog ops Q rest (a.put o.dst v') w') : wpList Try.prog ops Q (o :: rest) a w := by
  obtain ⟨i0, hi, hz0, hz1, hz2⟩ := info_parts str_info
  have hr0 := hr
  rcases hr.2 with ⟨e, e0⟩ | ⟨g, cap, cur, hv, hbg, hg, hnc, hcm, hcs, htake⟩
  · have el : L2 = [] := List.length_eq_zero_iff.1 e0
    subst el
    refine wpList_append_own_none hgd s x 26 ho base 9 i0 1 Try.underlying26 hi v L1.length (strV L1) hs hown (hx.trans e) ?_
    exact h v w (by rw [List.append_nil]; exact hown) (World.grownBy.refl w _)
  · rw [hv] at hx hr0
    refine wpList_append_own w hgd s x 26 ho base 9 i0 (.string ByteArray.empty) 1 16 Try.underlying26 hi hz0 hz1 hz2 rfl (by decide) v L1.length (strV L1) hs hown ⟨g, 0, none⟩ L2.length cap (strV L2) hx (by rw [strV_length]; omega) hr0.src ?_ (by unfold maxLen; omega) (by omega) hbase ?_
    · intro u hu
      obtain ⟨t, _, rfl⟩ := List.mem_map.1 hu
      rfl
    · intro v' w' h1 h2 _
      refine h v' w' ?_ h2
      show w'.ownsRow _ _ _ _ _ _
      rw [List.length_append, show strV (L1 ++ L2) = strV L1 ++ strV L2 by simp [strV]]
      exact h1
theorem Row16.empty (W : World) : Row16 (W.alloc (.cells #[] 9)) W.heap.size (.slice (some ⟨W.heap.size, 0, none⟩) 0 0) [] := own_empty8 W 9 1
/-- A row is read: of its own. -/
def RdRes (w : World) (L : List (List UInt8)) (e : Ending) (w' : World) : Prop := ∃ v, e = .returned v ∧ Below w.heap.size w w' ∧ Row16 w' w.heap.size v L
def ScRes (w : World) (L : List (List UInt8)) (m : Nat) (e : Ending) (w' : World) : Prop := ∃ v, e = .returned (.tuple #[v, .int .i64 (m : Int)]) ∧ Below w.heap.size w w' ∧ Row16 w' w.heap.size v L
section
variable {s p s' p' : List UInt8} {r f r' f' : Int} {o o' : Bool}
abbrev tA (s p : List UInt8) (r f : Int) (o : Bool) : Value := .agg #[.string ⟨s.toArray⟩, .string ⟨p.toArray⟩, .int .i64 r, .int .i64 f, .bool o]
theorem pn16 (n : Int) {e : Int} (h : newT n = ((s', p', r', f', o'), e)) (w : World) :
    Calls Try.prog 38 #[.int .i64 n] w fun x w' => x = .returned (.tuple #[tA s' p' r' f' o', .int .i64 e]) ∧ Below w.heap.size w w' := by
  have := pnew16_any n w; rw [h] at this; exact this
theorem pw16 {rec : List UInt8} {e : Int} (hg : goodT (s, p, r, f, o)) (hl : rec.length ≤ 9223372036854775807) (h : writeT (s, p, r, f, o) rec = ((s', p', r', f', o'), e)) (w : World) :
    Calls Try.prog 56 #[tA s p r f o, .string ⟨rec.toArray⟩] w fun x w' => x = .returned (.tuple #[tA s' p' r' f' o', .int .i64 e]) ∧ Below w.heap.size w w' := by
  have := pwrite16_any s p rec r f o hg.w hl w; rw [h] at this; exact this
theorem ps16 {e : Int} (hg : goodT (s, p, r, f, o)) (h : syncT (s, p, r, f, o) = ((s', p', r', f', o'), e)) (w : World) :
    Calls Try.prog 60 #[tA s p r f o] w fun x w' => x = .returned (.tuple #[tA s' p' r' f' o', .int .i64 e]) ∧ Below w.heap.size w w' := by
  have := psync16_any s p r f o hg.w.2.2.1 hg.w.2.2.2 w; rw [h] at this; exact this
theorem pa16 {n : Int} (h : armT (s, p, r, f, o) n = (s', p', r', f', o')) (w : World) :
    Calls Try.prog 40 #[tA s p r f o, .int .i64 n] w fun x w' => x = .returned (tA s' p' r' f' o') ∧ Below w.heap.size w w' := by
  have := parm16_any s p r f o n w; rw [h] at this; exact this
theorem pc16 {n : Int} (hg : goodT (s, p, r, f, o)) (h : crashT (s, p, r, f, o) n = (s', p', r', f', o')) (w : World) :
    Calls Try.prog 36 #[tA s p r f o, .int .i64 n] w fun x w' => x = .returned (tA s' p' r' f' o') ∧ Below w.heap.size w w' := by
  have := pcrash16_any s p r f o n (by have := hg.2.2.1; have := hg.2.2.2; simp only at *; omega) w; rw [h] at this; exact this
theorem pr16 (L : List (List UInt8)) (hg : goodT (s, p, r, f, o)) (h : readT (s, p, r, f, o) = L) (w : World) :
    Calls Try.prog 46 #[tA s p r f o] w fun x w' => RdRes w L x w' := by
  have := pread16_any s p r f o (by have := hg.2.2.1; have := hg.2.2.2; simp only at *; omega) w; rw [← h]; exact this
theorem psc16 (hs : s.length ≤ 8796093021952) (w : World) :
    Calls Try.prog 61 #[.string ⟨s.toArray⟩] w fun x w' => ScRes w (Lm.recsL s) (Lm.body (Lm.recsL s)).length x w' := pscan16_any s hs w
end
end Go.Proofs.Ytngllioidfffdaa
namespace Go.Proofs.Ytngllioidfffdaa
set_option maxRecDepth 100000
open Go.RowKit
set_option linter.unusedVariables false
attribute [local go_sem] ba_size
end Go.Proofs.Ytngllioidfffdaa
namespace Go.Proofs.Ytngllioidfffdaa
set_option maxRecDepth 100000
open Go.RowKit
set_option linter.unusedVariables false
structure KS (w W : World) (b4 : Nat) (x : Array Value) (o7 : Option Nat) : Prop where
  bel : Below w.heap.size w W
  x4 : SBox W b4 23 x
  x7 : ∀ b, o7 = some b → SBox W b 23 zT16 ∧ b4 < b
structure KE (w W : World) (b4 b7 : Nat) (x y : Array Value) : Prop where
  bel : Below w.heap.size w W
  x4 : SBox W b4 23 x
  x7 : SBox W b7 23 y
  lt : b4 < b7
section
variable {w W W' : World} {b4 : Nat} {x : Array Value} {o7 : Option Nat}
theorem KS.below (h : KS w W b4 x o7) (hb : Below W.heap.size W W') : KS w W' b4 x o7 := ⟨bel_trans h.bel hb, h.x4.below hb, fun b e => ⟨(h.x7 b e).1.below hb, (h.x7 b e).2⟩⟩
theorem KS.alloc7 (h : KS w W b4 x none) : KS w (W.alloc (.cells zT16 23)) b4 x (some W.heap.size) :=
  ⟨h.bel.alloc h.bel.size _, h.x4.alloc _, fun b e => by cases e; exact ⟨SBox.new W _ _, h.x4.lt⟩⟩
theorem KS.put {b : Nat} (h : KS w W b4 x (some b)) (hw : w.heap.size ≤ b4) (v0 v1 v2 v3 v4 : Value) : KE w (put5T W b v0 v1 v2 v3 v4) b4 b x #[v0, v1, v2, v3, v4] := by
  obtain ⟨g1, g2⟩ := h.x7 b rfl
  exact ⟨bel_put5 h.bel (by omega) _ _ _ _ _, h.x4.other5 (by omega) _ _ _ _ _, g1.put5 _ _ _ _ _, g2⟩
end
/-- A record written on a tape with room and power. -/
theorem back_step (l : List (List UInt8)) (k : Nat) (hk : k < l.length) (hn : l.length ≤ 100) (hs : ∀ t ∈ l.take k, t.length ≤ 65535) :
    (Lm.body (l.take k)).length ≤ k * 65538 ∧ ∃ q' r' E, writeT ([], Lm.body (l.take k), 16777216 - ((Lm.body (l.take k)).length : Int), -1, false) l[k] = (([], q', r', -1, false), E) ∧
      ((E = 0 ∧ q' = Lm.body (l.take (k + 1)) ∧ r' = 16777216 - ((Lm.body (l.take (k + 1))).length : Int) ∧ ∀ t ∈ l.take (k + 1), t.length ≤ 65535) ∨ (E = 4 ∧ 65535 < l[k].length)) := by
  have hb : ∀ L : List (List UInt8), (∀ t ∈ L, t.length ≤ 65535) → (Lm.body L).length ≤ L.length * 65538 := by
    intro L
    induction L with
    | nil => intro _; exact Nat.le_refl _
    | cons t r ih =>
      intro h
      have h1 := h t (by simp)
      have h2 := ih (fun x hx => h x (by simp [hx]))
      have h3 := Lm.lenL_le t.length
      simp only [Lm.body, List.length_append, List.length_cons]
      omega
  have h1 := hb _ hs
  rw [List.length_take, Nat.min_eq_left (by omega)] at h1
  refine ⟨h1, ?_⟩
  by_cases h2 : 65535 < l[k].length
  · exact ⟨Lm.body (l.take k), 16777216 - ((Lm.body (l.take k)).length : Int), 4, by unfold writeT; simp only; rw [if_neg (by simp), if_pos h2], .inr ⟨rfl, h2⟩⟩
  · have e1 : l.take (k + 1) = l.take k ++ [l[k]] := List.take_succ_eq_append_getElem hk
    have e2 : Lm.body (l.take (k + 1)) = Lm.body (l.take k) ++ (Lm.lenL l[k].length ++ l[k]) := by rw [e1, Lm.body_append]; simp [Lm.body]
    have h3 := Lm.lenL_le l[k].length
    refine ⟨_, _, 0, ?_, .inl ⟨rfl, rfl, rfl, ?_⟩⟩
    · unfold writeT laidT
      simp only
      rw [if_neg (by simp), if_neg h2, if_neg (by rw [List.length_append]; omega), if_neg (by omega), if_neg (by omega), e2]
      have e3 : (Lm.body (l.take k) ++ (Lm.lenL l[k].length ++ l[k])).length = (Lm.body (l.take k)).length + (Lm.lenL l[k].length ++ l[k]).length := List.length_append
      congr 4
      omega
    · intro t ht
      rw [e1] at ht
      rcases List.mem_append.1 ht with ht | ht
      · exact hs t ht
      · rw [List.mem_singleton] at ht; subst ht; omega
end Go.Proofs.Ytngllioidfffdaa
namespace Go.Proofs.Ytngllioidfffdaa
set_option maxRecDepth 100000
open Go.RowKit Go.ChangeShapes Go.WideShapes
set_option linter.unusedVariables false
abbrev Ac := Int × Int × List UInt8
def acV (x : Ac) : List Value := [.int .i64 x.1, .int .i64 x.2.1, .string ⟨x.2.2.toArray⟩]
theorem acV_len (x : Ac) : (acV x).length = 3 := rfl
def goodA (x : Ac) : Prop := (-9223372036854775808 ≤ x.1 ∧ x.1 ≤ 9223372036854775807) ∧ (-9223372036854775808 ≤ x.2.1 ∧ x.2.1 ≤ 9223372036854775807) ∧ x.2.2.length ≤ 140737488351232
abbrev IsActs (w : World) (v : Value) (L : List Ac) : Prop := IsRec 3 acV w v L
section
variable {H : Type} {enc : TypeId × Value → H} {P : Program} {W : World}
theorem ac_elem {e : TypeId} {f0 f1 f2 : Field} (hs : P.underlying e = some (.struct #[f0, f1, f2])) (hone : Go.Deep.oneCellFields P #[f0, f1, f2] = true)
    (u0 : P.underlying f0.type = some (.int .i64)) (u1 : P.underlying f1.type = some (.int .i64)) (u2 : P.underlying f2.type = some .string)
    (n : Nat) (cs' : List Value) (d' : DataW H) (p' : List MemPlace) (hl : cs'.length = 3) (h : DataW.trod enc P W 0 (fun _ => true) true n e cs' = some (d', p')) (hw : (DataW.weights P e d').all (· ≤ reachBytes) = true) : ∃ x, cs' = acV x ∧ goodA x := by
  obtain ⟨xs, k, _, hx, hcl, hlen, hel⟩ := DataW.trod_struct hs h
  have hlen' : xs.length = 3 := hlen
  match xs, hlen', cs', hl with
  | [y0, y1, y2], _, [c0, c1, c2], _ =>
    obtain ⟨o0, k0⟩ := Go.Deep.hone_of hone 0 f0 rfl
    obtain ⟨o1, k1⟩ := Go.Deep.hone_of hone 1 f1 rfl
    obtain ⟨o2, k2⟩ := Go.Deep.hone_of hone 2 f2 rfl
    have g0 := hel 0 f0 rfl
    have g1 := hel 1 f1 rfl
    have g2 := hel 2 f2 rfl
    simp [o0, o1, o2, k0, k1, k2] at g0 g1 g2
    obtain ⟨n0, e0, rfl, w0⟩ := DataW.trod_int u0 g0
    obtain ⟨n1, e1, rfl, w1⟩ := DataW.trod_int u1 g1
    obtain ⟨s2, e2, rfl, _⟩ := DataW.trod_string u2 g2
    have hd := congrArg Prod.fst hx
    simp at hd
    subst hd
    simp at e0 e1 e2
    subst e0 e1 e2
    simp only [DataW.weights, DataW.weightsEach, hs, List.map_cons, List.map_nil, List.append_nil, List.nil_append, List.all_cons, List.all_nil, Bool.and_true] at hw
    refine ⟨(n0, n1, s2.data.toList), rfl, i64_wf w0, i64_wf w1, ?_⟩
    exact of_decide_eq_true hw
end
/-- Room and bytes are together what there was at first. -/
structure Jr (k : Nat) (room : Int) (t : Tp) : Prop where
  h1 : 0 ≤ t.2.2.1
  h2 : t.2.2.1 + (t.1.length : Int) + (t.2.1.length : Int) = room
  h3 : t.1.length + t.2.1.length ≤ 65538 * k
  h4 : -9223372036854775808 ≤ t.2.2.2.1
  h5 : t.2.2.2.1 ≤ 9223372036854775807
theorem Jr.good {k : Nat} {room : Int} {t : Tp} (h : Jr k room t) (hk : k ≤ 300) (hr : room ≤ 9223372036854775807) : goodT t := by
  obtain ⟨h1, h2, h3, h4, h5⟩ := h
  exact ⟨⟨by omega, by omega⟩, ⟨h4, h5⟩, by omega, by omega⟩
theorem jr_of {k : Nat} {room r f : Int} {s p : List UInt8} {o : Bool} (h1 : 0 ≤ r) (h2 : r + (s.length : Int) + (p.length : Int) = room) (h3 : s.length + p.length ≤ 65538 * k) (h4 : -9223372036854775808 ≤ f) (h5 : f ≤ 9223372036854775807) : Jr k room (s, p, r, f, o) := ⟨h1, h2, h3, h4, h5⟩
theorem jr_new (room : Int) (h : ¬ room < 0) : newT room = (([], [], room, -1, false), 0) ∧ Jr 0 room ([], [], room, -1, false) :=
  ⟨by unfold newT; rw [if_neg h], jr_of (by omega) (by simp) (by simp) (by omega) (by omega)⟩
theorem Jr.more {k : Nat} {room : Int} {t : Tp} (h : Jr k room t) : Jr (k + 1) room t := ⟨h.h1, h.h2, Nat.le_trans h.h3 (by omega), h.h4, h.h5⟩
theorem jr_write {k : Nat} {room : Int} {t : Tp} (h : Jr k room t) (rec : List UInt8) : Jr (k + 1) room (writeT t rec).1 := by
  obtain ⟨s, p, r, f, o⟩ := t
  have same := h.more
  obtain ⟨h1, h2, h3, h4, h5⟩ := h
  simp only at h1 h2 h3 h4 h5
  have hl := Lm.lenL_le rec.length
  unfold writeT laidT
  simp only
  by_cases c1 : o = true
  · rw [if_pos c1]; exact same
  · rw [if_neg c1]
    by_cases c2 : 65535 < rec.length
    · rw [if_pos c2]; exact same
    · rw [if_neg c2]
      obtain ⟨b, hb⟩ : ∃ b, Lm.lenL rec.length ++ rec = b := ⟨_, rfl⟩
      have hbl : b.length ≤ 65538 := by rw [← hb, List.length_append]; omega
      rw [hb]
      by_cases c3 : r < (b.length : Int)
      · rw [if_pos c3]; exact same
      · rw [if_neg c3]
        by_cases c4 : 0 ≤ f ∧ f < (b.length : Int)
        · rw [if_pos c4]
          have : (b.take f.toNat).length = f.toNat := by rw [List.length_take]; omega
          have e : (p ++ b.take f.toNat).length = p.length + f.toNat := by rw [List.length_append, this]
          exact jr_of (by omega) (by omega) (by omega) (by omega) (by omega)
        · rw [if_neg c4]
          have e : (p ++ b).length = p.length + b.length := List.length_append
          by_cases c5 : 0 ≤ f
          · rw [if_pos c5]; exact jr_of (by omega) (by omega) (by omega) (by omega) (by omega)
          · rw [if_neg c5]; exact jr_of (by omega) (by omega) (by omega) (by omega) (by omega)
theorem jr_sync {k : Nat} {room : Int} {t : Tp} (h : Jr k room t) : Jr (k + 1) room (syncT t).1 := by
  obtain ⟨s, p, r, f, o⟩ := t
  unfold syncT
  simp only
  by_cases c1 : o = true
  · rw [if_pos c1]; exact h.more
  · rw [if_neg c1]
    obtain ⟨h1, h2, h3, h4, h5⟩ := h
    simp only at h1 h2 h3 h4 h5
    have e : (s ++ p).length = s.length + p.length := List.length_append
    have e2 : ([] : List UInt8).length = 0 := rfl
    exact jr_of h1 (by omega) (by omega) h4 h5
theorem jr_arm {k : Nat} {room : Int} {t : Tp} (h : Jr k room t) (n : Int) (hn : n ≤ 9223372036854775807) : Jr (k + 1) room (armT t n) := by
  obtain ⟨s, p, r, f, o⟩ := t
  unfold armT
  simp only
  by_cases c1 : o = true
  · rw [if_pos c1]; exact h.more
  · rw [if_neg c1]
    have g := h.more
    by_cases c2 : n < 0
    · rw [if_pos c2]; exact jr_of g.h1 g.h2 g.h3 (by omega) (by omega)
    · rw [if_neg c2]; exact jr_of g.h1 g.h2 g.h3 (by omega) (by omega)
theorem kept_le (t : Tp) (n : Int) : (keptT t n).length ≤ t.1.length + t.2.1.length := by
  have := (Lm.recs_many (t.1 ++ t.2.1.take n.toNat)).1
  unfold keptT
  rw [List.length_append, List.length_take] at this
  omega
theorem jr_crash {k : Nat} {room : Int} {t : Tp} (h : Jr k room t) (n : Int) (hk : k ≤ 300) (hr : room ≤ 9223372036854775807) : Jr (k + 1) room (crashT t n) ∧ crashT t n = (keptT t n, [], room - ((keptT t n).length : Int), -1, false) := by
  have hl := kept_le t n
  obtain ⟨h1, h2, h3, h4, h5⟩ := h
  have e : crashT t n = (keptT t n, [], room - ((keptT t n).length : Int), -1, false) := by
    unfold crashT
    have e1 : wrap64 (wrap64 (t.2.2.1 + ((t.1.length + t.2.1.length : Nat) : Int)) - ((keptT t n).length : Int)) = room - ((keptT t n).length : Int) := by
      unfold wrap64; omega
    rw [e1]
  refine ⟨?_, e⟩
  rw [e]
  have e2 : ([] : List UInt8).length = 0 := rfl
  exact jr_of (by omega) (by omega) (by omega) (by omega) (by omega)
end Go.Proofs.Ytngllioidfffdaa
namespace Go.Proofs.Ytngllioidfffdaa
set_option maxRecDepth 100000
open Go.RowKit
set_option linter.unusedVariables false
structure La (k : Nat) (room : Int) (t : Tp) (all : List (List UInt8)) (sure : Nat) : Prop where
  jr : Jr k room t
  few : all.length ≤ k
  may : ∀ x ∈ all, x.length ≤ 65535
  sur : sure ≤ all.length
  safe : t.1 = Lm.body (all.take sure)
  pre : t.1 ++ t.2.1 <+: Lm.body all
  on : t.2.2.2.2 = false → t.1 ++ t.2.1 = Lm.body all
theorem la_new (room : Int) (h : ¬ room < 0) : newT room = (([], [], room, -1, false), 0) ∧ La 0 room ([], [], room, -1, false) [] 0 :=
  ⟨(jr_new room h).1, (jr_new room h).2, Nat.le_refl _, by simp, Nat.le_refl _, rfl, List.nil_prefix, fun _ => rfl⟩
section
variable {k : Nat} {room : Int} {s p : List UInt8} {r f : Int} {o : Bool} {all : List (List UInt8)} {sure : Nat}
theorem La.same (h : La k room (s, p, r, f, o) all sure) : La (k + 1) room (s, p, r, f, o) all sure := ⟨h.jr.more, by have := h.few; omega, h.may, h.sur, h.safe, h.pre, h.on⟩
theorem body_snoc (all : List (List UInt8)) (rec : List UInt8) : Lm.body (all ++ [rec]) = Lm.body all ++ (Lm.lenL rec.length ++ rec) := by rw [Lm.body_append]; simp [Lm.body]
/-- What a write does: the tape, the word, and whether the record counts as written. -/
theorem la_write (h : La k room (s, p, r, f, o) all sure) (rec : List UInt8) : ∃ s' p' r' f' o' E, writeT (s, p, r, f, o) rec = ((s', p', r', f', o'), E) ∧
    ((((E = 0) ∨ (E = 6 ∧ o = false)) ∧ La (k + 1) room (s', p', r', f', o') (all ++ [rec]) sure) ∨ (((E = 6 ∧ o = true) ∨ E = 4 ∨ E = 5) ∧ La (k + 1) room (s', p', r', f', o') all sure)) := by
  have j2 := jr_write h.jr rec
  obtain ⟨⟨⟨s', p', r', f', o'⟩, E⟩, hW⟩ : ∃ x, writeT (s, p, r, f, o) rec = x := ⟨_, rfl⟩
  refine ⟨s', p', r', f', o', E, hW, ?_⟩
  rw [hW] at j2
  simp only at j2
  have hsame := h.same
  have hw := hW
  unfold writeT at hw
  simp only at hw
  by_cases c1 : o = true
  · rw [if_pos c1] at hw
    simp only [Prod.mk.injEq] at hw
    obtain ⟨⟨rfl, rfl, rfl, rfl, rfl⟩, rfl⟩ := hw
    exact .inr ⟨.inl ⟨rfl, c1⟩, hsame⟩
  · rw [if_neg c1] at hw
    have c1' : o = false := by simpa using c1
    by_cases c2 : 65535 < rec.length
    · rw [if_pos c2] at hw
      simp only [Prod.mk.injEq] at hw
      obtain ⟨⟨rfl, rfl, rfl, rfl, rfl⟩, rfl⟩ := hw
      exact .inr ⟨.inr (.inl rfl), hsame⟩
    · rw [if_neg c2] at hw
      by_cases c3 : r < ((Lm.lenL rec.length ++ rec).length : Int)
      · rw [if_pos c3] at hw
        simp only [Prod.mk.injEq] at hw
        obtain ⟨⟨rfl, rfl, rfl, rfl, rfl⟩, rfl⟩ := hw
        exact .inr ⟨.inr (.inr rfl), hsame⟩
      · rw [if_neg c3] at hw
        have hon := h.on c1'
        simp only at hon
        have hmay : ∀ x ∈ all ++ [rec], x.length ≤ 65535 := fun x hx => by
          rcases List.mem_append.1 hx with hx | hx
          · exact h.may x hx
          · rw [List.mem_singleton] at hx; subst hx; omega
        have hsafe : s = Lm.body ((all ++ [rec]).take sure) := by
          rw [List.take_append_of_le_length h.sur]; exact h.safe
        have hsur : sure ≤ (all ++ [rec]).length := by rw [List.length_append]; have := h.sur; omega
        have hfew : (all ++ [rec]).length ≤ k + 1 := by rw [List.length_append, List.length_singleton]; have := h.few; omega
        by_cases c4 : 0 ≤ f ∧ f < ((Lm.lenL rec.length ++ rec).length : Int)
        · rw [if_pos c4] at hw
          simp only [Prod.mk.injEq] at hw
          obtain ⟨⟨rfl, rfl, rfl, rfl, rfl⟩, rfl⟩ := hw
          refine .inl ⟨.inr ⟨rfl, c1'⟩, j2, hfew, hmay, hsur, hsafe, ?_, fun e => by cases e⟩
          simp only
          rw [← List.append_assoc, hon, body_snoc]
          exact (List.prefix_append_right_inj _).2 (List.take_prefix _ _)
        · rw [if_neg c4] at hw
          unfold laidT at hw
          simp only [Prod.mk.injEq] at hw
          obtain ⟨⟨rfl, rfl, rfl, rfl, rfl⟩, rfl⟩ := hw
          refine .inl ⟨.inl rfl, j2, hfew, hmay, hsur, hsafe, ?_, fun e => ?_⟩
          · simp only
            rw [← List.append_assoc, hon, body_snoc]
            exact List.prefix_rfl
          · simp only
            rw [← List.append_assoc, hon, body_snoc]
theorem la_sync (h : La k room (s, p, r, f, o) all sure) : ∃ s' p' r' f' o' E, syncT (s, p, r, f, o) = ((s', p', r', f', o'), E) ∧
    ((E = 0 ∧ La (k + 1) room (s', p', r', f', o') all all.length) ∨ (E = 6 ∧ La (k + 1) room (s', p', r', f', o') all sure)) := by
  have j2 := jr_sync h.jr
  obtain ⟨⟨⟨s', p', r', f', o'⟩, E⟩, hW⟩ : ∃ x, syncT (s, p, r, f, o) = x := ⟨_, rfl⟩
  refine ⟨s', p', r', f', o', E, hW, ?_⟩
  rw [hW] at j2
  simp only at j2
  have hw := hW
  unfold syncT at hw
  simp only at hw
  by_cases c1 : o = true
  · rw [if_pos c1] at hw
    simp only [Prod.mk.injEq] at hw
    obtain ⟨⟨rfl, rfl, rfl, rfl, rfl⟩, rfl⟩ := hw
    exact .inr ⟨rfl, h.same⟩
  · rw [if_neg c1] at hw
    have hon := h.on (by simpa using c1)
    simp only at hon
    simp only [Prod.mk.injEq] at hw
    obtain ⟨⟨rfl, rfl, rfl, rfl, rfl⟩, rfl⟩ := hw
    refine .inl ⟨rfl, j2, by have := h.few; omega, h.may, Nat.le_refl _, ?_, ?_, fun _ => ?_⟩
    · simp only; rw [hon, List.take_length]
    · simp only; rw [hon, List.append_nil]; exact List.prefix_rfl
    · simp only; rw [hon, List.append_nil]
theorem la_arm (h : La k room (s, p, r, f, o) all sure) (n : Int) (hn : n ≤ 9223372036854775807) : ∃ f' , armT (s, p, r, f, o) n = (s, p, r, f', o) ∧ La (k + 1) room (s, p, r, f', o) all sure := by
  have j2 := jr_arm h.jr n hn
  have e : ∃ f', armT (s, p, r, f, o) n = (s, p, r, f', o) := by
    unfold armT
    simp only
    by_cases c1 : o = true
    · rw [if_pos c1]; exact ⟨f, rfl⟩
    · rw [if_neg c1]
      have : o = false := by simpa using c1
      subst this
      exact ⟨_, rfl⟩
  obtain ⟨f', e⟩ := e
  rw [e] at j2
  exact ⟨f', e, j2, by have := h.few; omega, h.may, h.sur, h.safe, h.pre, h.on⟩
/-- What a crash leaves: a beginning of what was written, with all that was sure; and a crash again changes nothing. -/
theorem la_crash (h : La k room (s, p, r, f, o) all sure) (n : Int) (hk : k ≤ 299) (hr : room ≤ 9223372036854775807) : ∃ s' r' R, crashT (s, p, r, f, o) n = (s', [], r', -1, false) ∧ readT (s', [], r', -1, false) = R ∧ R <+: all ∧ sure ≤ R.length ∧
    crashT (s', [], r', -1, false) n = (s', [], r', -1, false) ∧ La (k + 1) room (s', [], r', -1, false) R R.length := by
  obtain ⟨j2, e⟩ := jr_crash h.jr n (by omega) hr
  rw [e] at j2
  obtain ⟨R, hR⟩ : ∃ R, Lm.recsL (s ++ p.take n.toNat) = R := ⟨_, rfl⟩
  have hK : keptT (s, p, r, f, o) n = Lm.body R := by unfold keptT; simp only; rw [hR]
  rw [hK] at e j2
  have hpart := Lm.scan_parts (s ++ p.take n.toNat)
  have hfit : ∀ t ∈ R, t.length ≤ 65535 := by rw [← hR]; exact hpart.2.1
  have hpre : R <+: all := by
    have h1 : s ++ p.take n.toNat <+: Lm.body all := ((List.prefix_append_right_inj s).2 (List.take_prefix _ _)).trans h.pre
    have h2 := List.prefix_iff_eq_take.1 h1
    rw [← hR, h2]
    exact Lm.recs_cut all h.may _
  have hsure : sure ≤ R.length := by
    have h1 := (Lm.recs_join s (p.take n.toNat)).1
    rw [hR] at h1
    have h2 : Lm.recsL s = all.take sure := by
      have := h.safe
      simp only at this
      rw [this]
      exact (Lm.recs_body _ (fun t ht => h.may t (List.mem_of_mem_take ht))).1
    rw [h2] at h1
    have h3 := h1.length_le
    have := h.sur
    rw [List.length_take] at h3
    omega
  have hL : La (k + 1) room (Lm.body R, [], room - ((Lm.body R).length : Int), -1, false) R R.length := ⟨j2, by have := hpre.length_le; have := h.few; omega, hfit, Nat.le_refl _, by simp only; rw [List.take_length], by simp only; rw [List.append_nil]; exact List.prefix_rfl, fun _ => by simp only; rw [List.append_nil]⟩
  refine ⟨Lm.body R, room - ((Lm.body R).length : Int), R, e, ?_, hpre, hsure, ?_, hL⟩
  · unfold readT
    simp only
    rw [List.append_nil]
    exact (Lm.recs_body R hfit).1
  · have e2 := (jr_crash j2 n (by omega) hr).2
    have hK2 : keptT (Lm.body R, [], room - ((Lm.body R).length : Int), -1, false) n = Lm.body R := by
      unfold keptT
      simp only
      rw [List.take_nil, List.append_nil, (Lm.recs_body R hfit).1]
    rw [hK2] at e2
    exact e2
end
theorem Row16.one (W : World) (x : List UInt8) : Row16 (W.alloc (.cells #[.string ⟨x.toArray⟩] 9)) W.heap.size (.slice (some ⟨W.heap.size, 0, none⟩) 1 1) [x] :=
  ⟨rfl, .inr ⟨W.heap.size, 1, #[.string ⟨x.toArray⟩], rfl, Nat.le_refl _, SBox.new W 9 _, Nat.le_refl _, by unfold maxLen; omega, by simp, by simp [strV]⟩⟩
theorem IsTxt.takes {w : World} {a : Option Addr} {cap : Nat} {ss : List (List UInt8)} (h : IsTxt w (.slice a ss.length cap) ss) (k : Nat) (hk : k ≤ ss.length) : IsTxt w (.slice a k cap) (ss.take k) := by
  obtain ⟨a', n, c, hv, h1, h2, h3, h4, h5, h6⟩ := h
  obtain ⟨rfl, rfl, rfl⟩ : a' = a ∧ n = ss.length ∧ c = cap := by simpa [eq_comm] using hv
  refine ⟨_, _, _, rfl, by simp; omega, by omega, h3, by omega, fun s hs => h5 s (List.mem_of_mem_take hs), ?_⟩
  rcases h6 with h6 | ⟨b, off, ha, hlt, hc⟩
  · exact .inl (by omega)
  · refine .inr ⟨b, off, ha, hlt, fun i hi => ?_⟩
    rw [hc i (by simp at hi; omega), List.getElem_take]
end Go.Proofs.Ytngllioidfffdaa
