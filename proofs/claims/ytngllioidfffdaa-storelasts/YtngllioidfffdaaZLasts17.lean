/-
  What a store had behind each act, and what a crash leaves of it: lists (StoreLasts' invariant).
-/
import Derived.Test.YtngllioidfffdaaZKeep17
import Derived.Test.YtngllioidfffdaaZR17Has
namespace Go.Proofs.Ytngllioidfffdaa
set_option maxRecDepth 100000
open Go.RowKit
set_option linter.unusedVariables false
/-- Behind some acts: what was written (all), what of it is sure, what the store had since the last that was sealed or noted (HL, from `from` on). -/
def StL (k : Nat) (room : Int) (s : Sto) (HL : List Sd) (fr : Nat) : Prop := ∃ all sure, La k room s.1 all sure ∧
  (∀ j, sure ≤ j → j ≤ all.length → ∃ y i, foldS ([], [], []) (all.take j) = some y ∧ fr ≤ i ∧ HL[i]? = some y) ∧ (s.1.2.2.2.2 = false → foldS ([], [], []) all = some s.2)
theorem StL.same {k : Nat} {room : Int} {s : Sto} {HL : List Sd} {fr : Nat} (h : StL k room s HL fr) : StL (k + 1) room s HL fr := by
  obtain ⟨⟨s, p, r, f, o⟩, x⟩ := s
  obtain ⟨all, sure, h1, h2⟩ := h
  exact ⟨all, sure, h1.same, h2⟩
theorem StL.more {k : Nat} {room : Int} {s : Sto} {HL : List Sd} {fr : Nat} (h : StL k room s HL fr) (y : Sd) : StL k room s (HL ++ [y]) fr := by
  obtain ⟨all, sure, h1, h2, h3⟩ := h
  refine ⟨all, sure, h1, fun j a b => ?_, h3⟩
  obtain ⟨y', i, e1, e2, e3⟩ := h2 j a b
  exact ⟨y', i, e1, e2, by rw [List.getElem?_append_left (List.getElem?_eq_some_iff.1 e3).1]; exact e3⟩
theorem stl_new (room : Int) (h : ¬ room < 0) : newS room = ((([], [], room, -1, false), ([], [], [])), 0) ∧ StL 0 room (([], [], room, -1, false), ([], [], [])) [([], [], [])] 0 := by
  obtain ⟨h1, h2⟩ := la_new room h
  refine ⟨by unfold newS; rw [h1], [], 0, h2, fun j _ hj => ?_, fun _ => rfl⟩
  exact ⟨([], [], []), 0, by simp [foldS], Nat.le_refl _, rfl⟩
/-- A crash: what is left is what the store had behind one of the acts. -/
theorem stl_crash {k : Nat} {room : Int} {s : Sto} {HL : List Sd} {fr : Nat} (h : StL k room s HL fr) (hk : k ≤ 299) (hr : room ≤ 9223372036854775807) (n : Int) :
    ∃ t y i, crashS s n = ((t, y), 0) ∧ fr ≤ i ∧ HL[i]? = some y ∧ StL (k + 1) room (t, y) [y] 0 := by
  obtain ⟨⟨s, p, r, f, o⟩, x⟩ := s
  obtain ⟨all, sure, h1, h2, h3⟩ := h
  obtain ⟨s', r', R, hc, hrd, hpre, hsu, _, hL⟩ := la_crash h1 n hk hr
  have hR := List.prefix_iff_eq_take.1 hpre
  obtain ⟨y, i, e1, e2, e3⟩ := h2 R.length hsu hpre.length_le
  rw [← hR] at e1
  refine ⟨_, y, i, ?_, e2, e3, R, R.length, hL, fun j a b => ?_, fun _ => e1⟩
  · unfold crashS
    simp only
    rw [hc]
    unfold openS
    rw [if_neg (by simp), hrd, e1]
  · obtain rfl : j = R.length := by omega
    exact ⟨y, 0, by rw [List.take_length]; exact e1, Nat.le_refl _, rfl⟩
/-- Without a tape's bounds. -/
def plT : Tp := ([], [], 1073741824, -1, false)
def plS (s : Sto) (a : Ac7) : Sd := (actS (plT, s.2) a).1.2
/-- What a record that is written comes to. -/
theorem stl_wr {k : Nat} {room : Int} {s : Sto} {HL : List Sd} {fr : Nat} (h : StL k room s HL fr) (rec : List UInt8) {y : Sd} (hd : doesS s.2 rec = some y) :
    ((wrS s rec).2 = 0 ∧ (wrS s rec).1.2 = y ∧ (wrS s rec).1.1.2.2.2.2 = false ∧ StL (k + 1) room (wrS s rec).1 (HL ++ [y]) fr) ∨
    ((wrS s rec).2 ≠ 0 ∧ (wrS s rec).1.2 = s.2 ∧ rec.length ≤ 65535 ∧ (wrS s rec).2 = 6 ∧ s.1.2.2.2.2 = false ∧ StL (k + 1) room (wrS s rec).1 (HL ++ [y]) fr) ∨
    ((wrS s rec).2 ≠ 0 ∧ (wrS s rec).1.2 = s.2 ∧ ¬ ((wrS s rec).2 = 6 ∧ s.1.2.2.2.2 = false) ∧ StL (k + 1) room (wrS s rec).1 HL fr) := by
  obtain ⟨⟨s, p, r, f, o⟩, x⟩ := s
  obtain ⟨all, sure, h1, h2, h3⟩ := h
  simp only at h3 hd
  obtain ⟨s', p', r', f', o', E, hW, hc⟩ := la_write h1 rec
  have hlen : E = 0 ∨ (E = 6 ∧ o = false) → rec.length ≤ 65535 := by
    intro hE
    have hw := hW
    unfold writeT at hw
    simp only at hw
    by_cases c1 : o = true
    · rw [if_pos c1] at hw; simp only [Prod.mk.injEq] at hw
      rcases hE with hE | hE
      · omega
      · rw [hE.2] at c1; simp at c1
    · rw [if_neg c1] at hw
      by_cases c2 : 65535 < rec.length
      · rw [if_pos c2] at hw; simp only [Prod.mk.injEq] at hw; omega
      · omega
  unfold wrS
  simp only [hW]
  have hnew : ∀ (hL : La (k + 1) room (s', p', r', f', o') (all ++ [rec]) sure) (ho : o = false) (z : Sd) (hz : o' = false → z = y), StL (k + 1) room ((s', p', r', f', o'), z) (HL ++ [y]) fr := by
    intro hL ho z hz
    have hx := h3 ho
    have hfull : foldS ([], [], []) (all ++ [rec]) = some y := by rw [fold_snoc, hx]; exact hd
    refine ⟨all ++ [rec], sure, hL, fun j a b => ?_, fun ho' => by rw [hz ho']; exact hfull⟩
    rcases Nat.lt_or_ge all.length j with hj | hj
    · obtain rfl : j = (all ++ [rec]).length := by simp only [List.length_append, List.length_singleton] at b ⊢; omega
      have hfr : fr ≤ HL.length := by
        obtain ⟨_, i, _, e2, e3⟩ := h2 all.length h1.sur (Nat.le_refl _)
        have := (List.getElem?_eq_some_iff.1 e3).1
        omega
      exact ⟨y, HL.length, by rw [List.take_length]; exact hfull, hfr, by simp⟩
    · obtain ⟨y', i, e1, e2, e3⟩ := h2 j a hj
      exact ⟨y', i, by rw [List.take_append_of_le_length hj]; exact e1, e2, by rw [List.getElem?_append_left (List.getElem?_eq_some_iff.1 e3).1]; exact e3⟩
  have hcode := write_code (s, p, r, f, o) rec
  rw [hW] at hcode
  simp only at hcode
  rcases hc with ⟨hE, hL⟩ | ⟨hE, hL⟩
  · rcases hE with hE | hE
    · obtain ⟨q1, q2⟩ := hcode hE
      rw [if_pos hE, doesR_yes hd]
      exact .inl ⟨rfl, rfl, q1, hnew hL q2 y (fun _ => rfl)⟩
    · have e0 : E ≠ 0 := by omega
      have hoff : o' = true := by
        have hw := hW
        unfold writeT at hw
        simp only at hw
        rw [if_neg (by rw [hE.2]; simp)] at hw
        by_cases c2 : 65535 < rec.length
        · rw [if_pos c2] at hw; simp only [Prod.mk.injEq] at hw; omega
        · rw [if_neg c2] at hw
          by_cases c3 : r < ((Lm.lenL rec.length ++ rec).length : Int)
          · rw [if_pos c3] at hw; simp only [Prod.mk.injEq] at hw; omega
          · rw [if_neg c3] at hw
            by_cases c4 : 0 ≤ f ∧ f < ((Lm.lenL rec.length ++ rec).length : Int)
            · rw [if_pos c4] at hw; simp only [Prod.mk.injEq] at hw; exact hw.1.2.2.2.2.symm
            · rw [if_neg c4] at hw; simp only [Prod.mk.injEq] at hw; omega
      rw [if_neg e0]
      exact .inr (.inl ⟨e0, rfl, hlen (.inr hE), hE.1, hE.2, hnew hL hE.2 x (fun ho' => by rw [hoff] at ho'; simp at ho')⟩)
  · have e0 : E ≠ 0 := by omega
    have hoo : o' = o ∧ ¬ (E = 6 ∧ o = false) := by
      have hw := hW
      unfold writeT at hw
      simp only at hw
      by_cases c1 : o = true
      · rw [if_pos c1] at hw; simp only [Prod.mk.injEq] at hw; exact ⟨hw.1.2.2.2.2.symm, fun h => by rw [c1] at h; simp at h⟩
      · rw [if_neg c1] at hw
        rcases hE with hE | hE | hE
        · exact absurd hE.2 c1
        all_goals
          refine ⟨?_, fun h => by omega⟩
          by_cases c2 : 65535 < rec.length
          · rw [if_pos c2] at hw; simp only [Prod.mk.injEq] at hw; exact hw.1.2.2.2.2.symm
          · rw [if_neg c2] at hw
            by_cases c3 : r < ((Lm.lenL rec.length ++ rec).length : Int)
            · rw [if_pos c3] at hw; simp only [Prod.mk.injEq] at hw; exact hw.1.2.2.2.2.symm
            · rw [if_neg c3] at hw
              by_cases c4 : 0 ≤ f ∧ f < ((Lm.lenL rec.length ++ rec).length : Int)
              · rw [if_pos c4] at hw; simp only [Prod.mk.injEq] at hw; omega
              · rw [if_neg c4] at hw; simp only [Prod.mk.injEq] at hw; omega
    rw [if_neg e0]
    exact .inr (.inr ⟨e0, rfl, hoo.2, all, sure, hL, h2, fun ho' => h3 (by rw [← hoo.1]; exact ho')⟩)
/-- Behind a sync all is sure. -/
theorem stl_sy {k : Nat} {room : Int} {s : Sto} {HL : List Sd} {fr : Nat} {y : Sd} (h : StL k room s (HL ++ [y]) fr) (ho : s.1.2.2.2.2 = false) (hx : s.2 = y) : (syS s 0).2 = 0 ∧ (syS s 0).1.2 = y ∧ StL (k + 1) room (syS s 0).1 (HL ++ [y]) HL.length := by
  obtain ⟨⟨s, p, r, f, o⟩, x⟩ := s
  obtain ⟨all, sure, h1, h2, h3⟩ := h
  simp only at h3 ho hx
  obtain ⟨s', p', r', f', o', E, hW, hc⟩ := la_sync h1
  have hf : (syncT (s, p, r, f, o)) = ((s ++ p, [], r, f, false), 0) := by unfold syncT; rw [if_neg (by rw [ho]; simp)]
  unfold syS
  rw [if_pos rfl]
  simp only [hW]
  rw [hf] at hW
  simp only [Prod.mk.injEq] at hW
  rcases hc with ⟨hE, hL⟩ | ⟨hE, hL⟩
  · refine ⟨hE, hx, all, all.length, hL, fun j a b => ?_, fun _ => h3 ho⟩
    obtain rfl : j = all.length := by omega
    exact ⟨y, HL.length, by rw [List.take_length, ← hx]; exact h3 ho, Nat.le_refl _, by simp⟩
  · omega
theorem pl_wr (x : Sd) (rec : List UInt8) {y : Sd} (hd : doesS x rec = some y) (hl : rec.length ≤ 65535) : (wrS (plT, x) rec).1.2 = y ∧ (wrS (plT, x) rec).2 = 0 := by
  have h : (writeT plT rec).2 = 0 := by
    unfold writeT plT
    have hll := Lm.lenL_le rec.length
    rw [if_neg (by simp), if_neg (by omega), if_neg (by rw [List.length_append]; simp only; omega), if_neg (by simp only; omega)]
  unfold wrS
  simp only
  rw [if_pos h, doesR_yes hd]
  exact ⟨rfl, rfl⟩
theorem does_put' (x : Sd) (e : Ev) (h : mayE e) (hl : x.1.length < 64) : doesS x (101 :: bytE e) = some (x.1 ++ [e], x.2) := by
  have hd := does_put x e h hl
  unfold doesR at hd
  cases hx : doesS x (101 :: bytE e) with
  | none => rw [hx] at hd; simp at hd
  | some y => rw [hx] at hd; simp at hd; rw [hd]
theorem does_seal' (x : Sd) (h : x.1 ≠ []) (hl : x.2.1.length < 8) : doesS x [115] = some ([], x.2.1 ++ [x.1], x.2.2) := by
  unfold doesS
  rw [if_pos rfl, if_neg (fun hh => hh.elim h (by omega))]
theorem does_note' (x : Sd) (b : List UInt8) (hl : x.2.2.length < 16) : doesS x (99 :: b) = some (x.1, x.2.1, x.2.2 ++ [b]) := by
  unfold doesS
  rw [if_neg (by intro hh; have := congrArg List.head? hh; simp at this)]
  simp only
  rw [if_pos ⟨trivial, hl⟩]
/-- What one act comes to. -/
def ActTo (k : Nat) (room : Int) (s : Sto) (HL : List Sd) (fr fr' : Nat) (r : Sto × Int) (pl : Sd) : Prop :=
  (r.2 = 0 ∧ StL (k + 2) room r.1 (HL ++ [r.1.2]) fr') ∨ (r.2 = 6 ∧ s.1.2.2.2.2 = false ∧ StL (k + 2) room r.1 (HL ++ [pl]) fr) ∨ (r.2 ≠ 0 ∧ ¬ (r.2 = 6 ∧ s.1.2.2.2.2 = false) ∧ StL (k + 2) room r.1 HL fr)
theorem to_wr {k : Nat} {room : Int} {s : Sto} {HL : List Sd} {fr : Nat} (h : StL k room s HL fr) (rec : List UInt8) {y : Sd} (hd : doesS s.2 rec = some y) : ActTo k room s HL fr fr (wrS s rec) (wrS (plT, s.2) rec).1.2 := by
  rcases stl_wr h rec hd with ⟨h1, h2, _, h4⟩ | ⟨h1, h2, h3, h4, h5, h6⟩ | ⟨h1, h2, h3, h4⟩
  · exact .inl ⟨h1, by rw [h2]; exact h4.same⟩
  · exact .inr (.inl ⟨h4, h5, by rw [(pl_wr s.2 rec hd h3).1]; exact h6.same⟩)
  · exact .inr (.inr ⟨h1, h3, h4.same⟩)
theorem to_sy {k : Nat} {room : Int} {s : Sto} {HL : List Sd} {fr : Nat} (h : StL k room s HL fr) (rec : List UInt8) {y : Sd} (hd : doesS s.2 rec = some y) : ActTo k room s HL fr HL.length (syS (wrS s rec).1 (wrS s rec).2) (syS (wrS (plT, s.2) rec).1 (wrS (plT, s.2) rec).2).1.2 := by
  rcases stl_wr h rec hd with ⟨h1, h2, h3, h4⟩ | ⟨h1, h2, h3, h4, h5, h6⟩ | ⟨h1, h2, h3, h4⟩
  · rw [h1]
    obtain ⟨g1, g2, g3⟩ := stl_sy h4 h3 h2
    exact .inl ⟨g1, by rw [g2]; exact g3⟩
  · have hs : syS (wrS s rec).1 (wrS s rec).2 = ((wrS s rec).1, (wrS s rec).2) := by unfold syS; rw [if_neg h1]
    rw [hs]
    refine .inr (.inl ⟨h4, h5, ?_⟩)
    have hp := pl_wr s.2 rec hd h3
    have : (syS (wrS (plT, s.2) rec).1 (wrS (plT, s.2) rec).2).1.2 = y := by unfold syS; rw [if_pos hp.2]; exact hp.1
    rw [this]
    exact h6.same
  · have hs : syS (wrS s rec).1 (wrS s rec).2 = ((wrS s rec).1, (wrS s rec).2) := by unfold syS; rw [if_neg h1]
    rw [hs]
    exact .inr (.inr ⟨h1, h3, h4.same⟩)
theorem stl_act {k : Nat} {room : Int} {s : Sto} {HL : List Sd} {fr : Nat} (h : StL k room s HL fr) (a : Ac7) (ha : a.2.1 ≤ 9223372036854775807) : ActTo k room s HL fr (if a.1 = 2 ∨ a.1 = 3 then HL.length else fr) (actS s a) (plS s a) := by
  have hno : ∀ (e : Int) (fr' : Nat) (pl : Sd), e ≠ 0 → e ≠ 6 → ActTo k room s HL fr fr' (s, e) pl := fun e fr' pl h1 h2 => .inr (.inr ⟨h1, fun hh => h2 hh.1, h.same.same⟩)
  unfold plS actS
  by_cases c1 : a.1 = 1
  · rw [if_pos c1, if_pos c1, if_neg (by omega)]
    unfold putS
    by_cases g1 : mayE a.2.2.1
    · have g3 : ¬ ¬ mayE a.2.2.1 := fun hh => hh g1
      rw [if_neg g3, if_neg g3]
      by_cases g2 : 64 ≤ s.2.1.length
      · rw [if_pos g2]; exact hno _ _ _ (by omega) (by omega)
      · rw [if_neg g2, if_neg g2, writeS_no, writeS_no]
        exact to_wr h _ (does_put' s.2 _ g1 (by omega))
    · rw [if_pos g1]; exact hno _ _ _ (by omega) (by omega)
  · rw [if_neg c1, if_neg c1]
    by_cases c2 : a.1 = 2
    · rw [if_pos c2, if_pos c2, if_pos (.inl c2)]
      unfold sealS
      by_cases g1 : s.2.1 = []
      · rw [if_pos g1]; exact hno _ _ _ (by omega) (by omega)
      · rw [if_neg g1, if_neg g1]
        by_cases g2 : 8 ≤ s.2.2.1.length
        · rw [if_pos g2]; exact hno _ _ _ (by omega) (by omega)
        · rw [if_neg g2, if_neg g2, writeS_yes, writeS_yes]
          exact to_sy h _ (does_seal' s.2 g1 (by omega))
    · rw [if_neg c2, if_neg c2]
      by_cases c3 : a.1 = 3
      · rw [if_pos c3, if_pos c3, if_pos (.inr c3)]
        unfold noteS
        by_cases g2 : 16 ≤ s.2.2.2.length
        · rw [if_pos g2]; exact hno _ _ _ (by omega) (by omega)
        · rw [if_neg g2, if_neg g2, writeS_yes, writeS_yes]
          exact to_sy h _ (does_note' s.2 _ (by omega))
      · rw [if_neg c3, if_neg c3, if_neg (by omega)]
        by_cases c4 : a.1 = 4
        · rw [if_pos c4]
          obtain ⟨⟨s, p, r, f, o⟩, x⟩ := s
          obtain ⟨all, sure, h1, h2, h3⟩ := h
          obtain ⟨f', hW, hL⟩ := la_arm h1 a.2.1 ha
          unfold armS
          simp only [hW]
          have hh : StL (k + 1) room ((s, p, r, f', o), x) HL fr := ⟨all, sure, hL, h2, h3⟩
          exact .inl ⟨rfl, (hh.same).more _⟩
        · rw [if_neg c4]
          exact .inl ⟨rfl, (h.same.same).more _⟩
theorem stl_good {k : Nat} {room : Int} {s : Sto} {HL : List Sd} {fr : Nat} (h : StL k room s HL fr) (hk : k ≤ 300) (hr : room ≤ 9223372036854775807) : goodW s.1 ∧ s.1.1.length ≤ 19661400 ∧ s.1.2.1.length ≤ 19661400 := by
  obtain ⟨all, sure, h1, _⟩ := h
  have g := h1.jr.good hk hr
  have h3 := h1.jr.h3
  exact ⟨g.w, by omega, by omega⟩
/-- Is one of a row's, from `fr` on and ahead of j, that one? -/
def anyB (y : Sd) (HL : List Sd) (fr j : Nat) : Bool := (List.range (j - fr)).any fun d => match HL[fr + d]? with | some z => eqSd y z | none => false
theorem anyB_start (y : Sd) (HL : List Sd) (fr : Nat) : anyB y HL fr fr = false := by unfold anyB; simp
theorem anyB_next (y : Sd) (HL : List Sd) (fr j : Nat) (h1 : fr ≤ j) (h2 : j < HL.length) : anyB y HL fr (j + 1) = (anyB y HL fr j || eqSd y HL[j]) := by
  unfold anyB
  rw [show j + 1 - fr = (j - fr) + 1 by omega, List.range_succ, List.any_append]
  simp only [List.any_cons, List.any_nil, Bool.or_false]
  rw [show fr + (j - fr) = j by omega, List.getElem?_eq_getElem h2]
theorem anyB_end (y : Sd) (HL : List Sd) (fr i : Nat) (h1 : fr ≤ i) (h2 : HL[i]? = some y) : anyB y HL fr HL.length = true := by
  unfold anyB
  have hi := (List.getElem?_eq_some_iff.1 h2).1
  rw [List.any_eq_true]
  refine ⟨i - fr, List.mem_range.2 (by omega), ?_⟩
  rw [show fr + (i - fr) = i by omega, h2]
  exact eqSd_yes rfl
end Go.Proofs.Ytngllioidfffdaa
