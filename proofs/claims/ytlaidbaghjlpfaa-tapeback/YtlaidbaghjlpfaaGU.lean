/-
  The contracts of tapes, as a walk takes them: tapes cell by cell; rows of records.
  What cartouchelaw16.shown answers.
-/
import Derived.Test.YtlaidbaghjlpfaaZP16Write
import Derived.Test.YtlaidbaghjlpfaaZP16Crash
import Derived.Test.YtlaidbaghjlpfaaGT
import Derived.Test.YtlaidbaghjlpfaaGD
import Derived.Test.YtlaidbaghjlpfaaGL
import Derived.Laws.AppendOwnNone
import Derived.Lib.Hide
namespace Go.Proofs.Ytlaidbaghjlpfaa
set_option maxRecDepth 100000
open Go.RowKit
set_option linter.unusedVariables false
/-- A row of texts that lies at or above a block. -/
def Row16 (W : World) (B : Nat) (v : Value) (L : List (List UInt8)) : Prop := W.ownsRow B 9 1 v L.length (strV L)
section
variable {W W' : World} {B : Nat} {v : Value} {L : List (List UInt8)}
theorem Row16.below (h : Row16 W B v L) (b : Below W.heap.size W W') : Row16 W' B v L := owns_below h b
theorem Row16.low {B' : Nat} (h : Row16 W B v L) (b : B' ≤ B) : Row16 W B' v L := owns_low h b
theorem Row16.alloc (h : Row16 W B v L) (o : Obj) : Row16 (W.alloc o) B v L := h.below ((Below.refl _ W).alloc (Nat.le_refl _) o)
theorem Row16.set (h : Row16 W B v L) (k j : Nat) (hk : k < B) (u : Value) : Row16 (W.setCell ⟨k, j, none⟩ u) B v L :=
  owns_keep7 h u (fun e => by have := (h.lt k e.symm).1; omega)
theorem Row16.put5 (h : Row16 W B v L) (k : Nat) (hk : k < B) (a b c d e : Value) : Row16 (((((W.setCell ⟨k, 0, none⟩ a).setCell ⟨k, 1, none⟩ b).setCell ⟨k, 2, none⟩ c).setCell ⟨k, 3, none⟩ d).setCell ⟨k, 4, none⟩ e) B v L :=
  ((((h.set k 0 hk a).set k 1 hk b).set k 2 hk c).set k 3 hk d).set k 4 hk e
theorem Row16.txt (h : Row16 W B v L) (hn : L.length ≤ 140737488351232) (hl : ∀ t ∈ L, t.length ≤ 65535) : IsTxt W v L := IsTxt.own h hn (fun t ht => by have := hl t ht; omega)
theorem Row16.len (h : Row16 W B v L) : ∃ a c, v = .slice a L.length c ∧ L.length ≤ c ∧ c ≤ 9223372036854775807 := by
  rcases h.2 with ⟨rfl, h0⟩ | ⟨g, cap, cur, rfl, _, _, hc, hm, _⟩
  · exact ⟨none, 0, by rw [h0], by omega, by omega⟩
  · exact ⟨_, _, rfl, hc, by unfold maxLen at hm; omega⟩
theorem Row16.nil (W : World) (B : Nat) : Row16 W B (.slice none 0 0) [] := World.ownsRow_nil _ _ _ _
end
theorem Row16.src {W : World} {B g n c : Nat} {L : List (List UInt8)} (h : Row16 W B (.slice (some ⟨g, 0, none⟩) n c) L) : ∀ j u, (strV L)[j]? = some u → W.cell? ((⟨g, 0, none⟩ : Addr).add j) = some u := by
  intro j u hu
  obtain ⟨h1, h2⟩ := h
  rcases h2 with ⟨e, _⟩ | ⟨g', cap, cur, hv, hbg, hg, hnc, hcm, hcs, htake⟩
  · cases e
  · obtain ⟨rfl, rfl, rfl⟩ : g = g' ∧ n = L.length ∧ c = cap := by simpa using hv
    have hj := (List.getElem?_eq_some_iff.1 hu).1
    rw [strV_length] at hj
    have e : (⟨g, 0, none⟩ : Addr).add j = ⟨g, j, none⟩ := by unfold Addr.add; by_cases hj0 : j = 0 <;> simp [hj0]
    rw [e, Lib.cell_of_heap hg, ← Array.getElem?_toList, ← hu, ← htake, List.getElem?_take_of_lt (by omega)]
/-- A row appended to a row of the walk's own. -/
theorem app16 {w : World} {ops : Array Oper} {rest : List Oper} {o : Oper} {a : Act} {Q : Exit → Act → World → Prop} (hgd : o.guard = none) (s x : Operand)
    (ho : o.op = .call { callee := .builtin .append, args := #[s, x], argTypes := #[36, 36] }) (base : Nat) (v : Value) (L1 : List (List UInt8)) (hs : a.eval s = v) (hown : Row16 w base v L1)
    (B2 : Nat) (v2 : Value) (L2 : List (List UInt8)) (hx : a.eval x = v2) (hr : Row16 w B2 v2 L2) (hb : L1.length + L2.length ≤ 8796093022207) (hbase : base ≤ w.heap.size)
    (h : ∀ v' w', Row16 w' base v' (L1 ++ L2) → w.grownBy w' v.ownBlock → wpList Try.prog ops Q rest (a.put o.dst v') w') : wpList Try.prog ops Q (o :: rest) a w := by
  obtain ⟨i0, hi, hz0, hz1, hz2⟩ := info_parts str_info
  have hr0 := hr
  rcases hr.2 with ⟨e, e0⟩ | ⟨g, cap, cur, hv, hbg, hg, hnc, hcm, hcs, htake⟩
  · have el : L2 = [] := List.length_eq_zero_iff.1 e0
    subst el
    refine wpList_append_own_none hgd s x 36 ho base 9 i0 1 Try.underlying36 hi v L1.length (strV L1) hs hown (hx.trans e) ?_
    exact h v w (by rw [List.append_nil]; exact hown) (World.grownBy.refl w _)
  · rw [hv] at hx hr0
    refine wpList_append_own w hgd s x 36 ho base 9 i0 (.string ByteArray.empty) 1 16 Try.underlying36 hi hz0 hz1 hz2 rfl (by decide) v L1.length (strV L1) hs hown ⟨g, 0, none⟩ L2.length cap (strV L2) hx (by rw [strV_length]; omega) hr0.src ?_ (by unfold maxLen; omega) (by omega) hbase ?_
    · intro u hu
      obtain ⟨t, _, rfl⟩ := List.mem_map.1 hu
      rfl
    · intro v' w' h1 h2 _
      refine h v' w' ?_ h2
      show w'.ownsRow _ _ _ _ _ _
      rw [List.length_append, show strV (L1 ++ L2) = strV L1 ++ strV L2 by simp [strV]]
      exact h1
theorem Row16.empty (W : World) : Row16 (W.alloc (.cells #[] 9)) W.heap.size (.slice (some ⟨W.heap.size, 0, none⟩) 0 0) [] := own_empty8 W 9 1
/-- A row is read: of its own. -/
def RdRes (w : World) (L : List (List UInt8)) (e : Ending) (w' : World) : Prop := ∃ v, e = .returned v ∧ Below w.heap.size w w' ∧ Row16 w' w.heap.size v L
def ScRes (w : World) (L : List (List UInt8)) (m : Nat) (e : Ending) (w' : World) : Prop := ∃ v, e = .returned (.tuple #[v, .int .i64 (m : Int)]) ∧ Below w.heap.size w w' ∧ Row16 w' w.heap.size v L
section
variable {s p s' p' : List UInt8} {r f r' f' : Int} {o o' : Bool}
abbrev tA (s p : List UInt8) (r f : Int) (o : Bool) : Value := .agg #[.string ⟨s.toArray⟩, .string ⟨p.toArray⟩, .int .i64 r, .int .i64 f, .bool o]
theorem pn16 (n : Int) {e : Int} (h : newT n = ((s', p', r', f', o'), e)) (w : World) :
    Calls Try.prog 10 #[.int .i64 n] w fun x w' => x = .returned (.tuple #[tA s' p' r' f' o', .int .i64 e]) ∧ Below w.heap.size w w' := by
  have := pnew16_any n w; rw [h] at this; exact this
theorem pw16 {rec : List UInt8} {e : Int} (hg : goodT (s, p, r, f, o)) (hl : rec.length ≤ 9223372036854775807) (h : writeT (s, p, r, f, o) rec = ((s', p', r', f', o'), e)) (w : World) :
    Calls Try.prog 12 #[tA s p r f o, .string ⟨rec.toArray⟩] w fun x w' => x = .returned (.tuple #[tA s' p' r' f' o', .int .i64 e]) ∧ Below w.heap.size w w' := by
  have := pwrite16_any s p rec r f o hg hl w; rw [h] at this; exact this
theorem ps16 {e : Int} (hg : goodT (s, p, r, f, o)) (h : syncT (s, p, r, f, o) = ((s', p', r', f', o'), e)) (w : World) :
    Calls Try.prog 14 #[tA s p r f o] w fun x w' => x = .returned (.tuple #[tA s' p' r' f' o', .int .i64 e]) ∧ Below w.heap.size w w' := by
  have := psync16_any s p r f o hg.2.2.1 hg.2.2.2 w; rw [h] at this; exact this
theorem pa16 {n : Int} (h : armT (s, p, r, f, o) n = (s', p', r', f', o')) (w : World) :
    Calls Try.prog 21 #[tA s p r f o, .int .i64 n] w fun x w' => x = .returned (tA s' p' r' f' o') ∧ Below w.heap.size w w' := by
  have := parm16_any s p r f o n w; rw [h] at this; exact this
theorem pc16 {n : Int} (hg : goodT (s, p, r, f, o)) (h : crashT (s, p, r, f, o) n = (s', p', r', f', o')) (w : World) :
    Calls Try.prog 23 #[tA s p r f o, .int .i64 n] w fun x w' => x = .returned (tA s' p' r' f' o') ∧ Below w.heap.size w w' := by
  have := pcrash16_any s p r f o n (by have := hg.2.2.1; have := hg.2.2.2; simp only at *; omega) w; rw [h] at this; exact this
theorem pr16 (L : List (List UInt8)) (hg : goodT (s, p, r, f, o)) (h : readT (s, p, r, f, o) = L) (w : World) :
    Calls Try.prog 19 #[tA s p r f o] w fun x w' => RdRes w L x w' := by
  have := pread16_any s p r f o (by have := hg.2.2.1; have := hg.2.2.2; simp only at *; omega) w; rw [← h]; exact this
theorem psc16 (hs : s.length ≤ 8796093021952) (w : World) :
    Calls Try.prog 16 #[.string ⟨s.toArray⟩] w fun x w' => ScRes w (Lm.recsL s) (Lm.body (Lm.recsL s)).length x w' := pscan16_any s hs w
end
end Go.Proofs.Ytlaidbaghjlpfaa
namespace Go.Proofs.Ytlaidbaghjlpfaa
set_option maxRecDepth 100000
open Go.RowKit
set_option linter.unusedVariables false
attribute [local go_sem] ba_size
set_option maxHeartbeats 2000000 in
theorem shown16_any (w : World) : Calls Try.prog 9 #[] w fun e w' => e = .returned (.bool true) ∧ Below w.heap.size w w' := by
  have G : ∀ s p r f o, s.length ≤ 100 → p.length ≤ 100 → (-9 : Int) ≤ r ∧ r ≤ 9 → (-9 : Int) ≤ f ∧ f ≤ 9 → goodT (s, p, r, f, o) := fun s p r f o h1 h2 h3 h4 => ⟨⟨by simp only; omega, by simp only; omega⟩, ⟨by simp only; omega, by simp only; omega⟩, by simp only; omega, by simp only; omega⟩
  have C1 := fun W => pn16 9 (s' := []) (p' := []) (r' := 9) (f' := -1) (o' := false) (e := 0) (by decide) W
  have C2 := fun W => pw16 (s := []) (p := []) (r := 9) (f := -1) (o := false) (rec := [97, 98]) (s' := []) (p' := [2, 97, 98]) (r' := 6) (f' := -1) (o' := false) (e := 0) (G _ _ _ _ _ (by decide) (by decide) (by decide) (by decide)) (by decide) (by decide) W
  have C3 := fun W => pw16 (s := []) (p := [2, 97, 98]) (r := 6) (f := -1) (o := false) (rec := [48, 49, 50, 51, 52, 53, 54, 55, 56, 57]) (s' := []) (p' := [2, 97, 98]) (r' := 6) (f' := -1) (o' := false) (e := 5) (G _ _ _ _ _ (by decide) (by decide) (by decide) (by decide)) (by decide) (by decide) W
  have C4 := fun W => pc16 (s := []) (p := [2, 97, 98]) (r := 6) (f := -1) (o := false) (n := 3) (s' := [2, 97, 98]) (p' := []) (r' := 6) (f' := -1) (o' := false) (G _ _ _ _ _ (by decide) (by decide) (by decide) (by decide)) (by kernel_rfl) W
  have C5 := fun W => pr16 (s := [2, 97, 98]) (p := []) (r := 6) (f := -1) (o := false) [[97, 98]] (G _ _ _ _ _ (by decide) (by decide) (by decide) (by decide)) (by decide) W
  have C6 := fun W => pc16 (s := []) (p := [2, 97, 98]) (r := 6) (f := -1) (o := false) (n := 2) (s' := []) (p' := []) (r' := 9) (f' := -1) (o' := false) (G _ _ _ _ _ (by decide) (by decide) (by decide) (by decide)) (by kernel_rfl) W
  have C7 := fun W => pr16 (s := []) (p := []) (r := 9) (f := -1) (o := false) [] (G _ _ _ _ _ (by decide) (by decide) (by decide) (by decide)) (by decide) W
  clear G
  go_enter Try.func9, Try.ntmps9
  go_wp2_with fail
  refine (C1 _).mono ?_
  rintro e w_1 ⟨rfl, b_1⟩
  have B1 := (Below.refl w.heap.size w).trans (b_1.mono (Below.refl w.heap.size w).size)
  clear b_1
  have X_t := SBox.new w_1 23 #[.string ⟨#[]⟩, .string ⟨#[]⟩, .int .i64 9, .int .i64 (-1), .bool false]
  have l_t := B1.size
  have B2 := B1.alloc B1.size (.cells #[.string ⟨#[]⟩, .string ⟨#[]⟩, .int .i64 9, .int .i64 (-1), .bool false] 23)
  clear B1
  have c_t0_2 := X_t.cell 0 _ rfl
  have fc_t0_2 := X_t.frozen 0
  have c_t1_3 := X_t.cell 1 _ rfl
  have fc_t1_3 := X_t.frozen 1
  have c_t2_4 := X_t.cell 2 _ rfl
  have fc_t2_4 := X_t.frozen 2
  have c_t3_5 := X_t.cell 3 _ rfl
  have fc_t3_5 := X_t.frozen 3
  have c_t4_6 := X_t.cell 4 _ rfl
  have fc_t4_6 := X_t.frozen 4
  go_wp2_with fail
  refine (C2 _).mono ?_
  rintro e w_7 ⟨rfl, b_7⟩
  clear c_t0_2 fc_t0_2 c_t1_3 fc_t1_3 c_t2_4 fc_t2_4 c_t3_5 fc_t3_5 c_t4_6 fc_t4_6
  replace X_t := X_t.below b_7
  have B3 := B2.trans (b_7.mono B2.size)
  clear B2
  clear b_7
  have c_t0_8 := X_t.cell 0 _ rfl
  have fc_t0_8 := X_t.frozen 0
  have c_t1_9 := X_t.cell 1 _ rfl
  have fc_t1_9 := X_t.frozen 1
  have c_t2_10 := X_t.cell 2 _ rfl
  have fc_t2_10 := X_t.frozen 2
  have c_t3_11 := X_t.cell 3 _ rfl
  have fc_t3_11 := X_t.frozen 3
  have c_t4_12 := X_t.cell 4 _ rfl
  have fc_t4_12 := X_t.frozen 4
  go_wp2_with fail
  clear c_t0_8 fc_t0_8 c_t1_9 fc_t1_9 c_t2_10 fc_t2_10 c_t3_11 fc_t3_11 c_t4_12 fc_t4_12
  have B4 := bel_put5 (B := w_1.heap.size) B3 l_t (.string ⟨#[]⟩) (.string ⟨#[2, 97, 98]⟩) (.int .i64 6) (.int .i64 (-1)) (.bool false)
  replace X_t := X_t.put5 (.string ⟨#[]⟩) (.string ⟨#[2, 97, 98]⟩) (.int .i64 6) (.int .i64 (-1)) (.bool false)
  clear B3
  refine (C3 _).mono ?_
  rintro e w_13 ⟨rfl, b_13⟩
  replace X_t := X_t.below b_13
  have B5 := B4.trans (b_13.mono B4.size)
  clear B4
  clear b_13
  have c_t0_14 := X_t.cell 0 _ rfl
  have fc_t0_14 := X_t.frozen 0
  have c_t1_15 := X_t.cell 1 _ rfl
  have fc_t1_15 := X_t.frozen 1
  have c_t2_16 := X_t.cell 2 _ rfl
  have fc_t2_16 := X_t.frozen 2
  have c_t3_17 := X_t.cell 3 _ rfl
  have fc_t3_17 := X_t.frozen 3
  have c_t4_18 := X_t.cell 4 _ rfl
  have fc_t4_18 := X_t.frozen 4
  clear c_t0_14 fc_t0_14 c_t1_15 fc_t1_15 c_t2_16 fc_t2_16 c_t3_17 fc_t3_17 c_t4_18 fc_t4_18
  replace X_t := X_t.alloc (.cells #[.string ⟨#[]⟩, .string ⟨#[2, 97, 98]⟩, .int .i64 6, .int .i64 (-1), .bool false] 23)
  have X_k := SBox.new w_13 23 #[.string ⟨#[]⟩, .string ⟨#[2, 97, 98]⟩, .int .i64 6, .int .i64 (-1), .bool false]
  have l_k := B5.size
  have B6 := B5.alloc B5.size (.cells #[.string ⟨#[]⟩, .string ⟨#[2, 97, 98]⟩, .int .i64 6, .int .i64 (-1), .bool false] 23)
  clear B5
  have c_t0_19 := X_t.cell 0 _ rfl
  have fc_t0_19 := X_t.frozen 0
  have c_t1_20 := X_t.cell 1 _ rfl
  have fc_t1_20 := X_t.frozen 1
  have c_t2_21 := X_t.cell 2 _ rfl
  have fc_t2_21 := X_t.frozen 2
  have c_t3_22 := X_t.cell 3 _ rfl
  have fc_t3_22 := X_t.frozen 3
  have c_t4_23 := X_t.cell 4 _ rfl
  have fc_t4_23 := X_t.frozen 4
  have c_k0_24 := X_k.cell 0 _ rfl
  have fc_k0_24 := X_k.frozen 0
  have c_k1_25 := X_k.cell 1 _ rfl
  have fc_k1_25 := X_k.frozen 1
  have c_k2_26 := X_k.cell 2 _ rfl
  have fc_k2_26 := X_k.frozen 2
  have c_k3_27 := X_k.cell 3 _ rfl
  have fc_k3_27 := X_k.frozen 3
  have c_k4_28 := X_k.cell 4 _ rfl
  have fc_k4_28 := X_k.frozen 4
  go_wp2_with fail
  refine (C4 _).mono ?_
  rintro e w_29 ⟨rfl, b_29⟩
  clear c_t0_19 fc_t0_19 c_t1_20 fc_t1_20 c_t2_21 fc_t2_21 c_t3_22 fc_t3_22 c_t4_23 fc_t4_23 c_k0_24 fc_k0_24 c_k1_25 fc_k1_25 c_k2_26 fc_k2_26 c_k3_27 fc_k3_27 c_k4_28 fc_k4_28
  replace X_t := X_t.below b_29
  replace X_k := X_k.below b_29
  have B7 := B6.trans (b_29.mono B6.size)
  clear B6
  clear b_29
  have c_t0_30 := X_t.cell 0 _ rfl
  have fc_t0_30 := X_t.frozen 0
  have c_t1_31 := X_t.cell 1 _ rfl
  have fc_t1_31 := X_t.frozen 1
  have c_t2_32 := X_t.cell 2 _ rfl
  have fc_t2_32 := X_t.frozen 2
  have c_t3_33 := X_t.cell 3 _ rfl
  have fc_t3_33 := X_t.frozen 3
  have c_t4_34 := X_t.cell 4 _ rfl
  have fc_t4_34 := X_t.frozen 4
  have c_k0_35 := X_k.cell 0 _ rfl
  have fc_k0_35 := X_k.frozen 0
  have c_k1_36 := X_k.cell 1 _ rfl
  have fc_k1_36 := X_k.frozen 1
  have c_k2_37 := X_k.cell 2 _ rfl
  have fc_k2_37 := X_k.frozen 2
  have c_k3_38 := X_k.cell 3 _ rfl
  have fc_k3_38 := X_k.frozen 3
  have c_k4_39 := X_k.cell 4 _ rfl
  have fc_k4_39 := X_k.frozen 4
  go_wp2_with fail
  refine (C5 _).mono ?_
  rintro e w_40 ⟨v1, rfl, b_40, R_l⟩
  clear c_t0_30 fc_t0_30 c_t1_31 fc_t1_31 c_t2_32 fc_t2_32 c_t3_33 fc_t3_33 c_t4_34 fc_t4_34 c_k0_35 fc_k0_35 c_k1_36 fc_k1_36 c_k2_37 fc_k2_37 c_k3_38 fc_k3_38 c_k4_39 fc_k4_39
  replace X_t := X_t.below b_40
  replace X_k := X_k.below b_40
  have B8 := B7.trans (b_40.mono B7.size)
  clear B7
  clear b_40
  have c_t0_41 := X_t.cell 0 _ rfl
  have fc_t0_41 := X_t.frozen 0
  have c_t1_42 := X_t.cell 1 _ rfl
  have fc_t1_42 := X_t.frozen 1
  have c_t2_43 := X_t.cell 2 _ rfl
  have fc_t2_43 := X_t.frozen 2
  have c_t3_44 := X_t.cell 3 _ rfl
  have fc_t3_44 := X_t.frozen 3
  have c_t4_45 := X_t.cell 4 _ rfl
  have fc_t4_45 := X_t.frozen 4
  have c_k0_46 := X_k.cell 0 _ rfl
  have fc_k0_46 := X_k.frozen 0
  have c_k1_47 := X_k.cell 1 _ rfl
  have fc_k1_47 := X_k.frozen 1
  have c_k2_48 := X_k.cell 2 _ rfl
  have fc_k2_48 := X_k.frozen 2
  have c_k3_49 := X_k.cell 3 _ rfl
  have fc_k3_49 := X_k.frozen 3
  have c_k4_50 := X_k.cell 4 _ rfl
  have fc_k4_50 := X_k.frozen 4
  obtain ⟨a1, c1, rfl, m1, m2⟩ := R_l.len
  have T_l := R_l.txt (by decide) (by decide)
  obtain ⟨b1, o1, c1', e1, n1, n2, n3, n4, n5⟩ := T_l.at (by decide)
  obtain ⟨rfl, rfl⟩ : a1 = some ⟨b1, o1, none⟩ ∧ c1 = c1' := by simpa using e1
  have n6 := n5.out 0 (by decide)
  clear e1 n5 T_l
  simp only [Nat.add_zero] at n6
  change _ = some (Value.string ⟨#[97, 98]⟩) at n6
  go_wp2_with fail
  refine (C6 _).mono ?_
  rintro e w_51 ⟨rfl, b_51⟩
  clear c_t0_41 fc_t0_41 c_t1_42 fc_t1_42 c_t2_43 fc_t2_43 c_t3_44 fc_t3_44 c_t4_45 fc_t4_45 c_k0_46 fc_k0_46 c_k1_47 fc_k1_47 c_k2_48 fc_k2_48 c_k3_49 fc_k3_49 c_k4_50 fc_k4_50
  replace X_t := X_t.below b_51
  replace X_k := X_k.below b_51
  replace R_l := R_l.below b_51
  replace n6 := cell_bel b_51 n6
  have B9 := B8.trans (b_51.mono B8.size)
  clear B8
  clear b_51
  go_wp2_with fail
  refine (C7 _).mono ?_
  rintro e w_52 ⟨v2, rfl, b_52, R_m⟩
  replace X_t := X_t.below b_52
  replace X_k := X_k.below b_52
  replace R_l := R_l.below b_52
  replace n6 := cell_bel b_52 n6
  have B10 := B9.trans (b_52.mono B9.size)
  clear B9
  clear b_52
  obtain ⟨a2, c2, rfl, m3, m4⟩ := R_m.len
  go_wp2_with fail
  go_ret
  exact ⟨rfl, B10⟩
end Go.Proofs.Ytlaidbaghjlpfaa
