/-
  What is done to a store, and what a crash leaves where the power didn't go: lists.
-/
import Derived.Test.YtngllioidfffdaaGX
namespace Go.Proofs.Ytngllioidfffdaa
set_option maxRecDepth 100000
open Go.RowKit
set_option linter.unusedVariables false
/-- An act: its kind, a number, an event, a text. -/
abbrev Ac7 := Int × Int × Ev × List UInt8
def ac7V (x : Ac7) : List Value := [.int .i64 x.1, .int .i64 x.2.1, .int .i64 x.2.2.1.1, .int .i64 x.2.2.1.2.1, .string ⟨x.2.2.1.2.2.1.toArray⟩, .string ⟨x.2.2.1.2.2.2.toArray⟩, .string ⟨x.2.2.2.toArray⟩]
theorem ac7V_len (x : Ac7) : (ac7V x).length = 7 := rfl
def goodAc (x : Ac7) : Prop := (-9223372036854775808 ≤ x.2.1 ∧ x.2.1 ≤ 9223372036854775807) ∧ x.2.2.2.length ≤ 140737488351232
def actS (s : Sto) (a : Ac7) : Sto × Int := if a.1 = 1 then putS s a.2.2.1 else if a.1 = 2 then sealS s else if a.1 = 3 then noteS s a.2.2.2 else if a.1 = 4 then (armS s a.2.1, 0) else (s, 0)
/-- The power has not gone, and will not: what is written is what was done. -/
def StKeep (k : Nat) (room : Int) (s : Sto) : Prop := ∃ all sure, La k room s.1 all sure ∧ s.1.2.2.2.2 = false ∧ s.1.2.2.2.1 < 0 ∧ foldS ([], [], []) all = some s.2
theorem StKeep.same {k : Nat} {room : Int} {s : Sto} (h : StKeep k room s) : StKeep (k + 1) room s := by
  obtain ⟨⟨s, p, r, f, o⟩, x⟩ := s
  obtain ⟨all, sure, h1, h2⟩ := h
  exact ⟨all, sure, h1.same, h2⟩
theorem write_on (t : Tp) (rec : List UInt8) (ho : t.2.2.2.2 = false) (hf : t.2.2.2.1 < 0) : (writeT t rec).2 ≠ 6 ∧ (writeT t rec).1.2.2.2.1 = t.2.2.2.1 ∧ (writeT t rec).1.2.2.2.2 = false := by
  unfold writeT laidT
  rw [if_neg (by rw [ho]; simp)]
  by_cases h1 : 65535 < rec.length
  · rw [if_pos h1]; exact ⟨by simp, rfl, ho⟩
  · rw [if_neg h1]
    by_cases h2 : t.2.2.1 < ((Lm.lenL rec.length ++ rec).length : Int)
    · rw [if_pos h2]; exact ⟨by simp, rfl, ho⟩
    · rw [if_neg h2, if_neg (fun h => by omega), if_neg (by omega)]
      exact ⟨by simp, rfl, ho⟩
theorem keep_wr {k : Nat} {room : Int} {s : Sto} (h : StKeep k room s) (rec : List UInt8) {y : Sd} (hd : doesS s.2 rec = some y) : StKeep (k + 1) room (wrS s rec).1 := by
  obtain ⟨⟨s, p, r, f, o⟩, x⟩ := s
  obtain ⟨all, sure, h1, h2, h3, h4⟩ := h
  simp only at h2 h3 h4 hd
  obtain ⟨s', p', r', f', o', E, hW, hc⟩ := la_write h1 rec
  have hon := write_on (s, p, r, f, o) rec h2 h3
  rw [hW] at hon
  simp only at hon
  obtain ⟨n1, n2, n3⟩ := hon
  unfold wrS
  simp only [hW]
  rcases hc with ⟨hE, hL⟩ | ⟨hE, hL⟩
  · have e0 : E = 0 := by
      rcases hE with hE | hE
      · exact hE
      · exact absurd hE.1 n1
    rw [if_pos e0, doesR_yes hd]
    exact ⟨all ++ [rec], sure, hL, n3, by simp only; omega, by rw [fold_snoc, h4]; exact hd⟩
  · have e0 : E ≠ 0 := by
      rcases hE with hE | hE | hE
      · exact absurd hE.1 n1
      · omega
      · omega
    rw [if_neg e0]
    exact ⟨all, sure, hL, n3, by simp only; omega, h4⟩
theorem keep_sy {k : Nat} {room : Int} {s : Sto} (h : StKeep k room s) (e : Int) : StKeep (k + 1) room (syS s e).1 := by
  unfold syS
  by_cases he : e = 0
  · rw [if_pos he]
    obtain ⟨⟨s, p, r, f, o⟩, x⟩ := s
    obtain ⟨all, sure, h1, h2, h3, h4⟩ := h
    simp only at h2 h3 h4
    obtain ⟨s', p', r', f', o', E, hW, hc⟩ := la_sync h1
    have hf : (syncT (s, p, r, f, o)).1.2.2.2 = (f, false) := by unfold syncT; rw [if_neg (by rw [h2]; simp)]
    rw [hW] at hf
    simp only [Prod.mk.injEq] at hf
    simp only [hW]
    rcases hc with ⟨_, hL⟩ | ⟨_, hL⟩
    · exact ⟨all, _, hL, hf.2, by simp only; omega, h4⟩
    · exact ⟨all, _, hL, hf.2, by simp only; omega, h4⟩
  · rw [if_neg he]; exact h.same
theorem keep_act {k : Nat} {room : Int} {s : Sto} (h : StKeep k room s) (a : Ac7) (h4 : a.1 ≠ 4) : StKeep (k + 2) room (actS s a).1 := by
  unfold actS
  by_cases c1 : a.1 = 1
  · rw [if_pos c1]
    unfold putS
    by_cases g1 : mayE a.2.2.1
    · rw [if_neg (fun h => h g1)]
      by_cases g2 : 64 ≤ s.2.1.length
      · rw [if_pos g2]; exact h.same.same
      · rw [if_neg g2, writeS_no]
        have hd := does_put s.2 a.2.2.1 g1 (by omega)
        have : doesS s.2 (101 :: bytE a.2.2.1) = some (s.2.1 ++ [a.2.2.1], s.2.2) := by
          unfold doesR at hd
          cases hx : doesS s.2 (101 :: bytE a.2.2.1) with
          | none => rw [hx] at hd; simp at hd
          | some y => rw [hx] at hd; simp at hd; rw [hd]
        exact (keep_wr h _ this).same
    · rw [if_pos g1]; exact h.same.same
  · rw [if_neg c1]
    by_cases c2 : a.1 = 2
    · rw [if_pos c2]
      unfold sealS
      by_cases g1 : s.2.1 = []
      · rw [if_pos g1]; exact h.same.same
      · rw [if_neg g1]
        by_cases g2 : 8 ≤ s.2.2.1.length
        · rw [if_pos g2]; exact h.same.same
        · rw [if_neg g2, writeS_yes]
          have : doesS s.2 [115] = some ([], s.2.2.1 ++ [s.2.1], s.2.2.2) := by
            unfold doesS
            rw [if_pos rfl, if_neg (fun hh => hh.elim g1 (by omega))]
          exact keep_sy (keep_wr h _ this) _
    · rw [if_neg c2]
      by_cases c3 : a.1 = 3
      · rw [if_pos c3]
        unfold noteS
        by_cases g2 : 16 ≤ s.2.2.2.length
        · rw [if_pos g2]; exact h.same.same
        · rw [if_neg g2, writeS_yes]
          have : doesS s.2 (99 :: a.2.2.2) = some (s.2.1, s.2.2.1, s.2.2.2 ++ [a.2.2.2]) := by
            unfold doesS
            rw [if_neg (by intro hh; have := congrArg List.head? hh; simp at this)]
            simp only
            rw [if_pos ⟨trivial, by omega⟩]
          exact keep_sy (keep_wr h _ this) _
      · rw [if_neg c3, if_neg h4]; exact h.same.same
theorem keep_new (room : Int) (h : ¬ room < 0) : newS room = ((([], [], room, -1, false), ([], [], [])), 0) ∧ StKeep 0 room (([], [], room, -1, false), ([], [], [])) := by
  obtain ⟨h1, h2⟩ := la_new room h
  exact ⟨by unfold newS; rw [h1], [], 0, h2, rfl, by simp only; omega, rfl⟩
theorem keep_good {k : Nat} {room : Int} {s : Sto} (h : StKeep k room s) (hk : k ≤ 300) (hr : room ≤ 9223372036854775807) : goodW s.1 ∧ s.1.1.length ≤ 19661400 ∧ s.1.2.1.length ≤ 19661400 := by
  obtain ⟨all, sure, h1, _⟩ := h
  have g := h1.jr.good hk hr
  have h3 := h1.jr.h3
  exact ⟨g.w, by omega, by omega⟩
theorem keep_crash {k : Nat} {room : Int} {s : Sto} (h : StKeep k room s) (hk : k ≤ 300) : ∃ t, crashS s 1099511627776 = ((t, s.2), 0) := by
  obtain ⟨⟨s, p, r, f, o⟩, x⟩ := s
  obtain ⟨all, sure, h1, h2, h3, h4⟩ := h
  simp only at h2 h3 h4
  have h5 := h1.jr.h3
  simp only at h5
  have hon := h1.on h2
  simp only at hon
  have hp : p.take (1099511627776 : Int).toNat = p := List.take_of_length_le (by have : (1099511627776 : Int).toNat = 1099511627776 := rfl; omega)
  have hK : keptT (s, p, r, f, o) 1099511627776 = Lm.body all := by unfold keptT; simp only; rw [hp, hon, (Lm.recs_body all h1.may).1]
  refine ⟨crashT (s, p, r, f, o) 1099511627776, ?_⟩
  unfold crashS
  simp only
  obtain ⟨t', ht⟩ : ∃ t', crashT (s, p, r, f, o) 1099511627776 = t' := ⟨_, rfl⟩
  have e1 : t'.2.2.2.2 = false := by rw [← ht]; rfl
  have e2 : readT t' = all := by
    rw [← ht]
    unfold readT crashT
    simp only
    rw [List.append_nil, hK]
    exact (Lm.recs_body all h1.may).1
  rw [ht]
  unfold openS
  rw [if_neg (by rw [e1]; simp), e2, h4]
end Go.Proofs.Ytngllioidfffdaa
