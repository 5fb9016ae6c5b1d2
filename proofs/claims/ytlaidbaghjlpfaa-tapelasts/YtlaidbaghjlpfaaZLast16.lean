/-
  What was written on a tape, and what is sure of it: lists.
-/
import Derived.Test.YtlaidbaghjlpfaaZActs16
namespace Go.Proofs.Ytlaidbaghjlpfaa
set_option maxRecDepth 100000
open Go.RowKit
set_option linter.unusedVariables false
structure La (k : Nat) (room : Int) (t : Tp) (all : List (List UInt8)) (sure : Nat) : Prop where
  jr : Jr k room t
  few : all.length ≤ k
  may : ∀ x ∈ all, x.length ≤ 65535
  sur : sure ≤ all.length
  safe : t.1 = Lm.body (all.take sure)
  pre : t.1 ++ t.2.1 <+: Lm.body all
  on : t.2.2.2.2 = false → t.1 ++ t.2.1 = Lm.body all
theorem la_new (room : Int) (h : ¬ room < 0) : newT room = (([], [], room, -1, false), 0) ∧ La 0 room ([], [], room, -1, false) [] 0 :=
  ⟨(jr_new room h).1, (jr_new room h).2, Nat.le_refl _, by simp, Nat.le_refl _, rfl, List.nil_prefix, fun _ => rfl⟩
section
variable {k : Nat} {room : Int} {s p : List UInt8} {r f : Int} {o : Bool} {all : List (List UInt8)} {sure : Nat}
theorem La.same (h : La k room (s, p, r, f, o) all sure) : La (k + 1) room (s, p, r, f, o) all sure := ⟨h.jr.more, by have := h.few; omega, h.may, h.sur, h.safe, h.pre, h.on⟩
theorem body_snoc (all : List (List UInt8)) (rec : List UInt8) : Lm.body (all ++ [rec]) = Lm.body all ++ (Lm.lenL rec.length ++ rec) := by rw [Lm.body_append]; simp [Lm.body]
/-- What a write does: the tape, the word, and whether the record counts as written. -/
theorem la_write (h : La k room (s, p, r, f, o) all sure) (rec : List UInt8) : ∃ s' p' r' f' o' E, writeT (s, p, r, f, o) rec = ((s', p', r', f', o'), E) ∧
    ((((E = 0) ∨ (E = 6 ∧ o = false)) ∧ La (k + 1) room (s', p', r', f', o') (all ++ [rec]) sure) ∨ (((E = 6 ∧ o = true) ∨ E = 4 ∨ E = 5) ∧ La (k + 1) room (s', p', r', f', o') all sure)) := by
  have j2 := jr_write h.jr rec
  obtain ⟨⟨⟨s', p', r', f', o'⟩, E⟩, hW⟩ : ∃ x, writeT (s, p, r, f, o) rec = x := ⟨_, rfl⟩
  refine ⟨s', p', r', f', o', E, hW, ?_⟩
  rw [hW] at j2
  simp only at j2
  have hsame := h.same
  have hw := hW
  unfold writeT at hw
  simp only at hw
  by_cases c1 : o = true
  · rw [if_pos c1] at hw
    simp only [Prod.mk.injEq] at hw
    obtain ⟨⟨rfl, rfl, rfl, rfl, rfl⟩, rfl⟩ := hw
    exact .inr ⟨.inl ⟨rfl, c1⟩, hsame⟩
  · rw [if_neg c1] at hw
    have c1' : o = false := by simpa using c1
    by_cases c2 : 65535 < rec.length
    · rw [if_pos c2] at hw
      simp only [Prod.mk.injEq] at hw
      obtain ⟨⟨rfl, rfl, rfl, rfl, rfl⟩, rfl⟩ := hw
      exact .inr ⟨.inr (.inl rfl), hsame⟩
    · rw [if_neg c2] at hw
      by_cases c3 : r < ((Lm.lenL rec.length ++ rec).length : Int)
      · rw [if_pos c3] at hw
        simp only [Prod.mk.injEq] at hw
        obtain ⟨⟨rfl, rfl, rfl, rfl, rfl⟩, rfl⟩ := hw
        exact .inr ⟨.inr (.inr rfl), hsame⟩
      · rw [if_neg c3] at hw
        have hon := h.on c1'
        simp only at hon
        have hmay : ∀ x ∈ all ++ [rec], x.length ≤ 65535 := fun x hx => by
          rcases List.mem_append.1 hx with hx | hx
          · exact h.may x hx
          · rw [List.mem_singleton] at hx; subst hx; omega
        have hsafe : s = Lm.body ((all ++ [rec]).take sure) := by
          rw [List.take_append_of_le_length h.sur]; exact h.safe
        have hsur : sure ≤ (all ++ [rec]).length := by rw [List.length_append]; have := h.sur; omega
        have hfew : (all ++ [rec]).length ≤ k + 1 := by rw [List.length_append, List.length_singleton]; have := h.few; omega
        by_cases c4 : 0 ≤ f ∧ f < ((Lm.lenL rec.length ++ rec).length : Int)
        · rw [if_pos c4] at hw
          simp only [Prod.mk.injEq] at hw
          obtain ⟨⟨rfl, rfl, rfl, rfl, rfl⟩, rfl⟩ := hw
          refine .inl ⟨.inr ⟨rfl, c1'⟩, j2, hfew, hmay, hsur, hsafe, ?_, fun e => by cases e⟩
          simp only
          rw [← List.append_assoc, hon, body_snoc]
          exact (List.prefix_append_right_inj _).2 (List.take_prefix _ _)
        · rw [if_neg c4] at hw
          unfold laidT at hw
          simp only [Prod.mk.injEq] at hw
          obtain ⟨⟨rfl, rfl, rfl, rfl, rfl⟩, rfl⟩ := hw
          refine .inl ⟨.inl rfl, j2, hfew, hmay, hsur, hsafe, ?_, fun e => ?_⟩
          · simp only
            rw [← List.append_assoc, hon, body_snoc]
            exact List.prefix_rfl
          · simp only
            rw [← List.append_assoc, hon, body_snoc]
theorem la_sync (h : La k room (s, p, r, f, o) all sure) : ∃ s' p' r' f' o' E, syncT (s, p, r, f, o) = ((s', p', r', f', o'), E) ∧
    ((E = 0 ∧ La (k + 1) room (s', p', r', f', o') all all.length) ∨ (E = 6 ∧ La (k + 1) room (s', p', r', f', o') all sure)) := by
  have j2 := jr_sync h.jr
  obtain ⟨⟨⟨s', p', r', f', o'⟩, E⟩, hW⟩ : ∃ x, syncT (s, p, r, f, o) = x := ⟨_, rfl⟩
  refine ⟨s', p', r', f', o', E, hW, ?_⟩
  rw [hW] at j2
  simp only at j2
  have hw := hW
  unfold syncT at hw
  simp only at hw
  by_cases c1 : o = true
  · rw [if_pos c1] at hw
    simp only [Prod.mk.injEq] at hw
    obtain ⟨⟨rfl, rfl, rfl, rfl, rfl⟩, rfl⟩ := hw
    exact .inr ⟨rfl, h.same⟩
  · rw [if_neg c1] at hw
    have hon := h.on (by simpa using c1)
    simp only at hon
    simp only [Prod.mk.injEq] at hw
    obtain ⟨⟨rfl, rfl, rfl, rfl, rfl⟩, rfl⟩ := hw
    refine .inl ⟨rfl, j2, by have := h.few; omega, h.may, Nat.le_refl _, ?_, ?_, fun _ => ?_⟩
    · simp only; rw [hon, List.take_length]
    · simp only; rw [hon, List.append_nil]; exact List.prefix_rfl
    · simp only; rw [hon, List.append_nil]
theorem la_arm (h : La k room (s, p, r, f, o) all sure) (n : Int) (hn : n ≤ 9223372036854775807) : ∃ f' , armT (s, p, r, f, o) n = (s, p, r, f', o) ∧ La (k + 1) room (s, p, r, f', o) all sure := by
  have j2 := jr_arm h.jr n hn
  have e : ∃ f', armT (s, p, r, f, o) n = (s, p, r, f', o) := by
    unfold armT
    simp only
    by_cases c1 : o = true
    · rw [if_pos c1]; exact ⟨f, rfl⟩
    · rw [if_neg c1]
      have : o = false := by simpa using c1
      subst this
      exact ⟨_, rfl⟩
  obtain ⟨f', e⟩ := e
  rw [e] at j2
  exact ⟨f', e, j2, by have := h.few; omega, h.may, h.sur, h.safe, h.pre, h.on⟩
/-- What a crash leaves: a beginning of what was written, with all that was sure; and a crash again changes nothing. -/
theorem la_crash (h : La k room (s, p, r, f, o) all sure) (n : Int) (hk : k ≤ 299) (hr : room ≤ 9223372036854775807) : ∃ s' r' R, crashT (s, p, r, f, o) n = (s', [], r', -1, false) ∧ readT (s', [], r', -1, false) = R ∧ R <+: all ∧ sure ≤ R.length ∧
    crashT (s', [], r', -1, false) n = (s', [], r', -1, false) ∧ La (k + 1) room (s', [], r', -1, false) R R.length := by
  obtain ⟨j2, e⟩ := jr_crash h.jr n (by omega) hr
  rw [e] at j2
  obtain ⟨R, hR⟩ : ∃ R, Lm.recsL (s ++ p.take n.toNat) = R := ⟨_, rfl⟩
  have hK : keptT (s, p, r, f, o) n = Lm.body R := by unfold keptT; simp only; rw [hR]
  rw [hK] at e j2
  have hpart := Lm.scan_parts (s ++ p.take n.toNat)
  have hfit : ∀ t ∈ R, t.length ≤ 65535 := by rw [← hR]; exact hpart.2.1
  have hpre : R <+: all := by
    have h1 : s ++ p.take n.toNat <+: Lm.body all := ((List.prefix_append_right_inj s).2 (List.take_prefix _ _)).trans h.pre
    have h2 := List.prefix_iff_eq_take.1 h1
    rw [← hR, h2]
    exact Lm.recs_cut all h.may _
  have hsure : sure ≤ R.length := by
    have h1 := (Lm.recs_join s (p.take n.toNat)).1
    rw [hR] at h1
    have h2 : Lm.recsL s = all.take sure := by
      have := h.safe
      simp only at this
      rw [this]
      exact (Lm.recs_body _ (fun t ht => h.may t (List.mem_of_mem_take ht))).1
    rw [h2] at h1
    have h3 := h1.length_le
    have := h.sur
    rw [List.length_take] at h3
    omega
  have hL : La (k + 1) room (Lm.body R, [], room - ((Lm.body R).length : Int), -1, false) R R.length := ⟨j2, by have := hpre.length_le; have := h.few; omega, hfit, Nat.le_refl _, by simp only; rw [List.take_length], by simp only; rw [List.append_nil]; exact List.prefix_rfl, fun _ => by simp only; rw [List.append_nil]⟩
  refine ⟨Lm.body R, room - ((Lm.body R).length : Int), R, e, ?_, hpre, hsure, ?_, hL⟩
  · unfold readT
    simp only
    rw [List.append_nil]
    exact (Lm.recs_body R hfit).1
  · have e2 := (jr_crash j2 n (by omega) hr).2
    have hK2 : keptT (Lm.body R, [], room - ((Lm.body R).length : Int), -1, false) n = Lm.body R := by
      unfold keptT
      simp only
      rw [List.take_nil, List.append_nil, (Lm.recs_body R hfit).1]
    rw [hK2] at e2
    exact e2
end
theorem Row16.one (W : World) (x : List UInt8) : Row16 (W.alloc (.cells #[.string ⟨x.toArray⟩] 9)) W.heap.size (.slice (some ⟨W.heap.size, 0, none⟩) 1 1) [x] :=
  ⟨rfl, .inr ⟨W.heap.size, 1, #[.string ⟨x.toArray⟩], rfl, Nat.le_refl _, SBox.new W 9 _, Nat.le_refl _, by unfold maxLen; omega, by simp, by simp [strV]⟩⟩
theorem IsTxt.takes {w : World} {a : Option Addr} {cap : Nat} {ss : List (List UInt8)} (h : IsTxt w (.slice a ss.length cap) ss) (k : Nat) (hk : k ≤ ss.length) : IsTxt w (.slice a k cap) (ss.take k) := by
  obtain ⟨a', n, c, hv, h1, h2, h3, h4, h5, h6⟩ := h
  obtain ⟨rfl, rfl, rfl⟩ : a' = a ∧ n = ss.length ∧ c = cap := by simpa [eq_comm] using hv
  refine ⟨_, _, _, rfl, by simp; omega, by omega, h3, by omega, fun s hs => h5 s (List.mem_of_mem_take hs), ?_⟩
  rcases h6 with h6 | ⟨b, off, ha, hlt, hc⟩
  · exact .inl (by omega)
  · refine .inr ⟨b, off, ha, hlt, fun i hi => ?_⟩
    rw [hc i (by simp at hi; omega), List.getElem_take]
end Go.Proofs.Ytlaidbaghjlpfaa
