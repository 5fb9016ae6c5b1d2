/-
  What is done to a tape, as a row; room, power and bytes while it is done: lists, and a row's cells.
-/
import Derived.Test.YtlaidbaghjlpfaaZLoop16
import Derived.Test.YtlaidbaghjlpfaaGD
namespace Go.Proofs.Ytlaidbaghjlpfaa
set_option maxRecDepth 100000
open Go.RowKit Go.ChangeShapes Go.WideShapes
set_option linter.unusedVariables false
abbrev Ac := Int × Int × List UInt8
def acV (x : Ac) : List Value := [.int .i64 x.1, .int .i64 x.2.1, .string ⟨x.2.2.toArray⟩]
theorem acV_len (x : Ac) : (acV x).length = 3 := rfl
def goodA (x : Ac) : Prop := (-9223372036854775808 ≤ x.1 ∧ x.1 ≤ 9223372036854775807) ∧ (-9223372036854775808 ≤ x.2.1 ∧ x.2.1 ≤ 9223372036854775807) ∧ x.2.2.length ≤ 140737488351232
abbrev IsActs (w : World) (v : Value) (L : List Ac) : Prop := IsRec 3 acV w v L
section
variable {H : Type} {enc : TypeId × Value → H} {P : Program} {W : World}
theorem ac_elem {e : TypeId} {f0 f1 f2 : Field} (hs : P.underlying e = some (.struct #[f0, f1, f2])) (hone : Go.Deep.oneCellFields P #[f0, f1, f2] = true)
    (u0 : P.underlying f0.type = some (.int .i64)) (u1 : P.underlying f1.type = some (.int .i64)) (u2 : P.underlying f2.type = some .string)
    (n : Nat) (cs' : List Value) (d' : DataW H) (p' : List MemPlace) (hl : cs'.length = 3) (h : DataW.trod enc P W 0 (fun _ => true) true n e cs' = some (d', p')) (hw : (DataW.weights P e d').all (· ≤ reachBytes) = true) : ∃ x, cs' = acV x ∧ goodA x := by
  obtain ⟨xs, k, _, hx, hcl, hlen, hel⟩ := DataW.trod_struct hs h
  have hlen' : xs.length = 3 := hlen
  match xs, hlen', cs', hl with
  | [y0, y1, y2], _, [c0, c1, c2], _ =>
    obtain ⟨o0, k0⟩ := Go.Deep.hone_of hone 0 f0 rfl
    obtain ⟨o1, k1⟩ := Go.Deep.hone_of hone 1 f1 rfl
    obtain ⟨o2, k2⟩ := Go.Deep.hone_of hone 2 f2 rfl
    have g0 := hel 0 f0 rfl
    have g1 := hel 1 f1 rfl
    have g2 := hel 2 f2 rfl
    simp [o0, o1, o2, k0, k1, k2] at g0 g1 g2
    obtain ⟨n0, e0, rfl, w0⟩ := DataW.trod_int u0 g0
    obtain ⟨n1, e1, rfl, w1⟩ := DataW.trod_int u1 g1
    obtain ⟨s2, e2, rfl, _⟩ := DataW.trod_string u2 g2
    have hd := congrArg Prod.fst hx
    simp at hd
    subst hd
    simp at e0 e1 e2
    subst e0 e1 e2
    simp only [DataW.weights, DataW.weightsEach, hs, List.map_cons, List.map_nil, List.append_nil, List.nil_append, List.all_cons, List.all_nil, Bool.and_true] at hw
    refine ⟨(n0, n1, s2.data.toList), rfl, i64_wf w0, i64_wf w1, ?_⟩
    exact of_decide_eq_true hw
end
/-- Room and bytes are together what there was at first. -/
structure Jr (k : Nat) (room : Int) (t : Tp) : Prop where
  h1 : 0 ≤ t.2.2.1
  h2 : t.2.2.1 + (t.1.length : Int) + (t.2.1.length : Int) = room
  h3 : t.1.length + t.2.1.length ≤ 65538 * k
  h4 : -9223372036854775808 ≤ t.2.2.2.1
  h5 : t.2.2.2.1 ≤ 9223372036854775807
theorem Jr.good {k : Nat} {room : Int} {t : Tp} (h : Jr k room t) (hk : k ≤ 300) (hr : room ≤ 9223372036854775807) : goodT t := by
  obtain ⟨h1, h2, h3, h4, h5⟩ := h
  exact ⟨⟨by omega, by omega⟩, ⟨h4, h5⟩, by omega, by omega⟩
theorem jr_of {k : Nat} {room r f : Int} {s p : List UInt8} {o : Bool} (h1 : 0 ≤ r) (h2 : r + (s.length : Int) + (p.length : Int) = room) (h3 : s.length + p.length ≤ 65538 * k) (h4 : -9223372036854775808 ≤ f) (h5 : f ≤ 9223372036854775807) : Jr k room (s, p, r, f, o) := ⟨h1, h2, h3, h4, h5⟩
theorem jr_new (room : Int) (h : ¬ room < 0) : newT room = (([], [], room, -1, false), 0) ∧ Jr 0 room ([], [], room, -1, false) :=
  ⟨by unfold newT; rw [if_neg h], jr_of (by omega) (by simp) (by simp) (by omega) (by omega)⟩
theorem Jr.more {k : Nat} {room : Int} {t : Tp} (h : Jr k room t) : Jr (k + 1) room t := ⟨h.h1, h.h2, Nat.le_trans h.h3 (by omega), h.h4, h.h5⟩
theorem jr_write {k : Nat} {room : Int} {t : Tp} (h : Jr k room t) (rec : List UInt8) : Jr (k + 1) room (writeT t rec).1 := by
  obtain ⟨s, p, r, f, o⟩ := t
  have same := h.more
  obtain ⟨h1, h2, h3, h4, h5⟩ := h
  simp only at h1 h2 h3 h4 h5
  have hl := Lm.lenL_le rec.length
  unfold writeT laidT
  simp only
  by_cases c1 : o = true
  · rw [if_pos c1]; exact same
  · rw [if_neg c1]
    by_cases c2 : 65535 < rec.length
    · rw [if_pos c2]; exact same
    · rw [if_neg c2]
      obtain ⟨b, hb⟩ : ∃ b, Lm.lenL rec.length ++ rec = b := ⟨_, rfl⟩
      have hbl : b.length ≤ 65538 := by rw [← hb, List.length_append]; omega
      rw [hb]
      by_cases c3 : r < (b.length : Int)
      · rw [if_pos c3]; exact same
      · rw [if_neg c3]
        by_cases c4 : 0 ≤ f ∧ f < (b.length : Int)
        · rw [if_pos c4]
          have : (b.take f.toNat).length = f.toNat := by rw [List.length_take]; omega
          have e : (p ++ b.take f.toNat).length = p.length + f.toNat := by rw [List.length_append, this]
          exact jr_of (by omega) (by omega) (by omega) (by omega) (by omega)
        · rw [if_neg c4]
          have e : (p ++ b).length = p.length + b.length := List.length_append
          by_cases c5 : 0 ≤ f
          · rw [if_pos c5]; exact jr_of (by omega) (by omega) (by omega) (by omega) (by omega)
          · rw [if_neg c5]; exact jr_of (by omega) (by omega) (by omega) (by omega) (by omega)
theorem jr_sync {k : Nat} {room : Int} {t : Tp} (h : Jr k room t) : Jr (k + 1) room (syncT t).1 := by
  obtain ⟨s, p, r, f, o⟩ := t
  unfold syncT
  simp only
  by_cases c1 : o = true
  · rw [if_pos c1]; exact h.more
  · rw [if_neg c1]
    obtain ⟨h1, h2, h3, h4, h5⟩ := h
    simp only at h1 h2 h3 h4 h5
    have e : (s ++ p).length = s.length + p.length := List.length_append
    have e2 : ([] : List UInt8).length = 0 := rfl
    exact jr_of h1 (by omega) (by omega) h4 h5
theorem jr_arm {k : Nat} {room : Int} {t : Tp} (h : Jr k room t) (n : Int) (hn : n ≤ 9223372036854775807) : Jr (k + 1) room (armT t n) := by
  obtain ⟨s, p, r, f, o⟩ := t
  unfold armT
  simp only
  by_cases c1 : o = true
  · rw [if_pos c1]; exact h.more
  · rw [if_neg c1]
    have g := h.more
    by_cases c2 : n < 0
    · rw [if_pos c2]; exact jr_of g.h1 g.h2 g.h3 (by omega) (by omega)
    · rw [if_neg c2]; exact jr_of g.h1 g.h2 g.h3 (by omega) (by omega)
theorem kept_le (t : Tp) (n : Int) : (keptT t n).length ≤ t.1.length + t.2.1.length := by
  have := (Lm.recs_many (t.1 ++ t.2.1.take n.toNat)).1
  unfold keptT
  rw [List.length_append, List.length_take] at this
  omega
theorem jr_crash {k : Nat} {room : Int} {t : Tp} (h : Jr k room t) (n : Int) (hk : k ≤ 300) (hr : room ≤ 9223372036854775807) : Jr (k + 1) room (crashT t n) ∧ crashT t n = (keptT t n, [], room - ((keptT t n).length : Int), -1, false) := by
  have hl := kept_le t n
  obtain ⟨h1, h2, h3, h4, h5⟩ := h
  have e : crashT t n = (keptT t n, [], room - ((keptT t n).length : Int), -1, false) := by
    unfold crashT
    have e1 : wrap64 (wrap64 (t.2.2.1 + ((t.1.length + t.2.1.length : Nat) : Int)) - ((keptT t n).length : Int)) = room - ((keptT t n).length : Int) := by
      unfold wrap64; omega
    rw [e1]
  refine ⟨?_, e⟩
  rw [e]
  have e2 : ([] : List UInt8).length = 0 := rfl
  exact jr_of (by omega) (by omega) (by omega) (by omega) (by omega)
end Go.Proofs.Ytlaidbaghjlpfaa
