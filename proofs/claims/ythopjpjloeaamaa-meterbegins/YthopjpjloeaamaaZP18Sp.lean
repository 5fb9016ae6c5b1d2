/-
  What meter.Spend answers.
-/
import Derived.Test.YthopjpjloeaamaaZP18Chg
import Derived.Test.YthopjpjloeaamaaZBools18
import Derived.Test.YthopjpjloeaamaaZHist10
import Derived.Deep.OwnRows
import Derived.Lib.Hide
namespace Go.Proofs.Ythopjpjloeaamaa
set_option maxRecDepth 100000
open Go.RowKit
set_option linter.unusedVariables false
attribute [local go_sem] ba_size
abbrev chgF (b c : Nat) : Value := .func (.func 19) #[] #[.pointer (some ⟨b, 0, none⟩), .pointer (some ⟨c, 0, none⟩)]
theorem pcharging18_any (m : Mt) (now : Int) (w : World) :
    Calls Try.prog 18 #[mtV m, .int .u64 now] w fun e w' => e = .returned (chgF w.heap.size (w.heap.size + 1)) ∧ w' = (w.alloc (.cells (mtC m) 24)).alloc (.cells #[.int .u64 now] 22) := by
  obtain ⟨a, l⟩ := m
  unfold mtV mtC
  go_enter Try.func18, Try.ntmps18
  go_wp2_with fail
  go_ret
  exact ⟨rfl, rfl⟩
/-- A meter's box has been written, nothing else that was there. -/
def Chd (W W' : World) (b : Nat) (m : Mt) : Prop := ∃ W2, Below W.heap.size W W2 ∧ W' = (W2.setCell ⟨b, 0, none⟩ (.int .u64 m.1)).setCell ⟨b, 1, none⟩ (.int .i64 m.2)
theorem Chd.box {W W' : World} {b : Nat} {m m' : Mt} (h : Chd W W' b m') (hb : SBox W b 24 (mtC m)) : SBox W' b 24 (mtC m') := by
  obtain ⟨W2, h1, rfl⟩ := h
  exact (hb.below h1).put2 _ _
theorem Chd.block {W W' : World} {b : Nat} {m' : Mt} (h : Chd W W' b m') (g : Nat) (hg : g < W.heap.size) (hne : g ≠ b) : W'.heap[g]? = W.heap[g]? := by
  obtain ⟨W2, h1, rfl⟩ := h
  rw [World.setCell, World.setCell]
  simp [Array.getElem?_modify, Ne.symm hne, h1.block g hg]
theorem Chd.below {n : Nat} {w W W' : World} {b : Nat} {m' : Mt} (h : Chd W W' b m') (hB : Below n w W) (hb : n ≤ b) (hn : n ≤ W.heap.size) : Below n w W' := by
  obtain ⟨W2, h1, rfl⟩ := h
  exact bel_put2 (hB.trans (h1.mono hn)) hb _ _
theorem Chd.size {W W' : World} {b : Nat} {m' : Mt} (h : Chd W W' b m') : W.heap.size ≤ W'.heap.size := by
  obtain ⟨W2, h1, rfl⟩ := h
  rw [World.size_setCell, World.size_setCell]
  exact h1.size
set_option maxHeartbeats 2000000 in
theorem pchgc18_any (m : Mt) (now c : Int) (hm : goodM m) (W : World) (b d : Nat) (hne : d ≠ b) (X : SBox W b 24 (mtC m)) (Y : SBox W d 22 #[.int .u64 now]) :
    Calls Try.prog 19 #[.int .i64 c, .pointer (some ⟨b, 0, none⟩), .pointer (some ⟨d, 0, none⟩)] W fun e W' => e = .returned (.bool (decide ((chgM m now c).2 = 0))) ∧ Chd W W' b (chgM m now c).1 := by
  have C := fun W => pchg18_any m now c hm W
  obtain ⟨a, l⟩ := m
  obtain ⟨⟨⟨a', l'⟩, e'⟩, hx⟩ : ∃ x, chgM (a, l) now c = x := ⟨_, rfl⟩
  rw [hx] at C ⊢
  unfold mtV mtC at C
  unfold mtC at X
  simp only at C X ⊢
  clear hm hx
  have c0 := X.cell 0 _ rfl
  have c1 := X.cell 1 _ rfl
  have c2 := Y.cell 0 _ rfl
  have n0 := X.lt
  go_enter Try.func19, Try.ntmps19
  go_wp2_with fail
  refine (C _).mono ?_
  rintro e W1 ⟨rfl, b1⟩
  clear c0 c1 c2
  replace X := X.below b1
  have c0 := X.cell 0 _ rfl
  have c1 := X.cell 1 _ rfl
  have f0 := X.frozen 0
  have f1 := X.frozen 1
  have g0 : (e' == 0) = decide (e' = 0) := rfl
  go_wp2_with fail
  go_ret
  exact ⟨by simp, _, b1, rfl⟩
theorem boo_row (b : Nat) (n : Nat) (L : List Bool) (w : World) (hn : L.length = n) (hn2 : n ≤ 140737488351232) (h : w.rowIs b 4 n (fun j => .bool (L.getD j false))) : IsBs w (.slice (some ⟨b, 0, none⟩) n n) L := by
  refine ⟨_, _, _, rfl, hn, Nat.le_refl _, by omega, hn2, .inr ⟨b, 0, rfl, h.lt, fun i hi j u hu => ?_⟩⟩
  obtain ⟨rfl, rfl⟩ : j = 0 ∧ u = .bool L[i] := by
    match j, hu with
    | 0, hu => exact ⟨rfl, (Option.some.inj hu).symm⟩
    | j + 1, hu => simp [boE] at hu
  have := h.cell (i := i) (by omega)
  simp only [Nat.zero_add, Nat.mul_one, Nat.add_zero]
  rw [this]
  simp [List.getD, hi]
def rowF (S : List Bool) (j : Nat) : Value := .bool (S.getD j false)
theorem rowF_set (S : List Bool) (r : Bool) (j : Nat) : (if j = S.length then Value.bool r else rowF S j) = rowF (S ++ [r]) j := by
  unfold rowF
  by_cases h : j = S.length
  · rw [if_pos h, h]
    simp [List.getD]
  · rw [if_neg h]
    by_cases h2 : j < S.length
    · simp [List.getD, List.getElem?_append_left h2]
    · simp [List.getD, List.getElem?_eq_none (show S.length ≤ j by omega), List.getElem?_eq_none (show (S ++ [r]).length ≤ j by simp; omega)]
set_option maxHeartbeats 4000000 in
theorem pspend18_any (now : Int) (hnow : 0 ≤ now ∧ now ≤ 18446744073709551615) (V0 : Value) (L : List Int) (w : World) (hL : IsInts w V0 L) :
    Calls Try.prog 16 #[.int .u64 now, V0] w fun e w' => SpRes w (spnM now (now, 150) L) e w' := by
  have hm0 : goodM (now, 150) := by unfold goodM; simp only; omega
  obtain ⟨a, cap, rfl, hq1, hq2, hb1, HC⟩ := hL.some_at
  obtain ⟨n, hn⟩ : ∃ n, L.length = n := ⟨_, rfl⟩
  have HN := Lib.hid hn
  rw [hn] at hb1 hq1 ⊢
  clear hL hn
  obtain ⟨i0, hi, hz0, hz1, hz2⟩ := info_parts boo_info
  go_enter Try.func16, Try.ntmps16
  go_wp2_with fail
  refine (pfull18_any now _).mono ?_
  rintro e W1 ⟨rfl, b1⟩
  go_wp2_with fail
  refine (pcharging18_any (now, 150) now _).mono ?_
  rintro e W2 ⟨rfl, hW2⟩
  have XM : SBox W2 W1.heap.size 24 (mtC (now, 150)) := by rw [hW2]; exact (SBox.new W1 _ _).alloc _
  have XT : SBox W2 (W1.heap.size + 1) 22 #[.int .u64 now] := by rw [hW2]; exact msbox2 W1 _ _ _
  have BW : Below w.heap.size w W2 := by rw [hW2]; exact (b1.alloc b1.size _).alloc (by rw [World.size_alloc]; have := b1.size; omega) _
  have hN := b1.size
  obtain ⟨N, hNN⟩ : ∃ N, W1.heap.size = N := ⟨_, rfl⟩
  rw [hNN] at XM XT hN ⊢
  clear hW2 hNN b1
  go_wp2_with (at_make; refine wpList_make_row _ rfl _ _ 36 rfl 4 i0 (.bool false) Try.underlying36 hi hz0 hz1 rfl .i64 .i64 n rfl rfl ?c1 ?c2 ?_)
  case c1 => rw [hz2]; omega
  case c2 => omega
  have hb3 : N + 1 < W2.heap.size := XT.lt
  have R := World.rowIs_made W2 (.bool false) n 4
  replace XM := XM.alloc (.cells (madeCells #[.bool false] n) 4)
  replace XT := XT.alloc (.cells (madeCells #[.bool false] n) 4)
  replace BW := BW.alloc BW.size (.cells (madeCells #[.bool false] n) 4)
  obtain ⟨b, hbb⟩ : ∃ b, W2.heap.size = b := ⟨_, rfl⟩
  rw [hbb] at R hb3 ⊢
  clear hbb
  generalize World.alloc W2 _ = W3 at R XM XT BW ⊢
  go_wp2_with fail
  go_loopw [17] (fun i wr => ∃ (k : Nat) (m : Mt), k ≤ n ∧ goodM m ∧ i = .int .i64 k ∧ Hid (m = endM now (now, 150) (L.take k)) ∧ SBox wr N 24 (mtC m) ∧ SBox wr (N + 1) 22 #[.int .u64 now] ∧ wr.rowIs b 4 n (rowF (spnM now (now, 150) (L.take k))) ∧ Below w.heap.size w wr) (fun i _ => n - (intOf i).toNat)
  case atStart => exact ⟨0, (now, 150), Nat.zero_le _, hm0, rfl, rfl, XM, XT, R, BW⟩
  case round =>
    obtain ⟨k, m, hk, hgm, rfl, HM, XM, XT, R, BW⟩ := hrel
    by_cases hlt : k < n
    · have hk1 : k < L.length := by rw [HN.out]; exact hlt
      obtain ⟨bb, off, rfl, hblt, cell⟩ := HC.out k hk1
      obtain ⟨c, hc⟩ : ∃ c, L[k] = c := ⟨_, rfl⟩
      have C := fun W => pchgc18_any m now c hgm W N (N + 1) (by omega)
      have hgn := chgM_good hgm now c hnow
      have HE := Lib.hid (endM_at hk1 now (now, 150))
      have HS := Lib.hid (spnM_at hk1 now (now, 150))
      rw [← HM.out, hc] at HE HS
      replace cell : wr.cell? ⟨bb, off + k, none⟩ = some (.int .i64 c) := (BW.cell (p := ⟨bb, off + k, none⟩) hblt).trans (by simpa [hc] using cell 0 _ rfl)
      obtain ⟨m2, hm2⟩ : ∃ x, (chgM m now c).1 = x := ⟨_, rfl⟩
      obtain ⟨r, hr⟩ : ∃ x, decide ((chgM m now c).2 = 0) = x := ⟨_, rfl⟩
      rw [hm2] at C hgn HE
      rw [hr] at C HS
      have HSL : Hid ((spnM now (now, 150) (L.take k)).length = k) := by
        show _ = _
        rw [spnM_length, List.length_take]
        omega
      clear hc hm2 hr
      go_wp2_with fail
      refine (C _ XM XT).mono ?_
      rintro e W4 ⟨rfl, D⟩
      replace XT : SBox W4 (N + 1) 22 #[.int .u64 now] := (D.block _ XT.lt (by omega)).trans XT
      replace R := R.of_block (D.block _ R.lt (by omega))
      replace BW := D.below BW hN BW.size
      replace XM := D.box XM
      clear D C cell
      have rc := R.cell hlt
      have rf := R.frozen k
      go_wp2_with fail
      go_roundw
      case rel => exact ⟨k + 1, m2, by omega, hgn, by first | go_num | simp, HE.out.symm, XM.other b k (.bool r) (by omega), XT.other b k (.bool r) (by omega), (R.set k (.bool r)).congr (fun j _ => by rw [HS.out]; have := rowF_set (spnM now (now, 150) (L.take k)) r j; rw [HSL.out] at this; exact this), BW.setCell (p := ⟨b, k, none⟩) (by show w.heap.size ≤ b; omega) _⟩
      case measure => simp [intOf]; omega
    · obtain rfl : k = n := by omega
      have jq : ¬ (k : Int) < (k : Int) := by omega
      have HT : Hid (L.take k = L) := List.take_of_length_le (by have := HN.out; omega)
      rw [HT.out] at R
      go_wp2_with fail
      go_ret
      exact ⟨_, rfl, BW, boo_row b k _ _ (by rw [spnM_length]; exact HN.out) (by omega) R⟩
end Go.Proofs.Ythopjpjloeaamaa
