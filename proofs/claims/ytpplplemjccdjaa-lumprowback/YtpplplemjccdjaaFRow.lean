/-
  What lump.Row answers, at whatever row of texts.
-/
import Derived.Test.YtpplplemjccdjaaFText
import Derived.Test.YtpplplemjccdjaaFBld
import Derived.Test.YtpplplemjccdjaaStrs
namespace Go.Proofs.Ytpplplemjccdjaa
open Go.RowKit
attribute [local go_sem] ba_size ba_get ba_extract ba_append wrap_byte wrap_u64_byte take_drop_end
set_option maxHeartbeats 1000000 in
theorem row_any (a : Option Addr) (n cap : Nat) (ss : List (List UInt8)) (w : World) (h : IsStrs w a n ss) :
    Calls Try.prog 22 #[.slice a n cap] w fun e w' => e = .returned (.tuple #[.string ⟨(Lm.rowL ss).1.toArray⟩, .int .i64 ((Lm.rowL ss).2 : Int)]) ∧ Below w.heap.size w w' := by
  by_cases hbig : 65535 < n
  · have e : Lm.rowL ss = ([], 4) := by
      unfold Lm.rowL; rw [if_neg]; rw [Lm.rowOk_iff]; have := h.1; omega
    rw [e]
    obtain ⟨h1, h2, h3, h4⟩ := h
    have hn : n ≤ 140737488351232 := h3
    go_enter Try.func22, Try.ntmps22
    go_wp2
    go_ret2
    exact ⟨rfl, Below.refl _ _⟩
  · have HS : Hid (IsStrs w a n ss) := h
    have hsl : ss.length = n := h.1
    have hn : n ≤ 65535 := by omega
    have HL : Hid (ss.length = n) := hsl
    have hor : n = 0 ∨ ∃ b off, 0 < n ∧ a = some ⟨b, off, none⟩ ∧ b < w.heap.size ∧ Hid (∀ i (h : i < ss.length), w.cell? ⟨b, off + i, none⟩ = some (.string ⟨ss[i].toArray⟩)) := by
      rcases h.2.2.2 with h0 | ⟨b, off, ha, hlt, hc⟩
      · exact .inl h0
      · by_cases h0 : n = 0
        · exact .inl h0
        · exact .inr ⟨b, off, by omega, ha, hlt, hc⟩
    have HLe : Hid (∀ s ∈ ss, s.length ≤ 140737488351232) := h.2.1
    clear hsl h HS
    have hni : (n : Int) ≤ 65535 := by omega
    have HB : Hid (∀ k, (Lm.lenL n ++ Lm.body (ss.take k)).length ≤ 3 + 65538 * 65535 ∨ ¬ ∀ t ∈ ss.take k, t.length ≤ 65535) := by
      intro k
      by_cases hk : ∀ t ∈ ss.take k, t.length ≤ 65535
      · left
        have h1 := Lm.body_length (ss.take k) hk
        have h2 := Lm.lenL_le n
        have h3 : (ss.take k).length ≤ 65535 := by have := HL.out; simp; omega
        simp only [List.length_append]; omega
      · exact .inr hk
    rcases hor with rfl | ⟨b, off, hn0, rfl, hblt, HC⟩
    · go_enter Try.func22, Try.ntmps22
      go_wp2_with fail
      refine (length_any 0 (by omega) _).mono ?_
      rintro e w1 ⟨rfl, hb1⟩
      go_wp2_with fail
      refine (write_bytes w.heap.size w.heap.size [] (Lm.lenL 0) _ (.inl (bld_below (bld_new w _ rfl) hb1)) (by simp [Lm.lenL]) (by have := hb1.size; simp at this; omega)).mono ?_
      rintro e w2 ⟨rfl, hbl2, hb2⟩
      have hbw : Below w.heap.size w w2 := (((Below.refl _ _).alloc (Nat.le_refl _) _).trans (hb1.mono (by simp))).trans hb2
      have HBL : Hid (Lib.BuilderAt 69 5 w.heap.size w.heap.size (.pointer (some ⟨w.heap.size, 0, none⟩)) (Lib.byteCells (Lm.lenL 0 ++ Lm.body (ss.take 0))) w2) := by
        have h := hbl2
        rw [List.nil_append] at h
        show Lib.BuilderAt _ _ _ _ _ _ _
        simpa [Lm.body] using h
      clear hbl2 hb2 hb1
      go_wp2_with fail
      go_loopw [17] (fun i wr => ∃ k : Nat, k ≤ 0 ∧ i = .int .i64 k ∧ (∀ t ∈ ss.take k, t.length ≤ 65535) ∧ Hid (Lib.BuilderAt 69 5 w.heap.size w.heap.size (.pointer (some ⟨w.heap.size, 0, none⟩)) (Lib.byteCells (Lm.lenL 0 ++ Lm.body (ss.take k))) wr) ∧ Below w.heap.size w wr)
        (fun i _ => 0 - (intOf i).toNat)
      case atStart => exact ⟨0, Nat.zero_le _, rfl, by simp, HBL, hbw⟩
      case round =>
        obtain ⟨k, hk, rfl, hall, HBk, hbk⟩ := hrel
        obtain rfl : k = 0 := by omega
        have hlt : ¬ (0 : Int) < 0 := by omega
        clear hlt
        have hall' : ∀ t ∈ ss, t.length ≤ 65535 := by
          have e : ss.take 0 = ss := List.take_of_length_le (by have := HL.out; omega)
          rwa [e] at hall
        have HF : Hid (Lm.rowL ss = (Lm.lenL 0 ++ Lm.body (ss.take 0), 0)) := by
          have e : ss.take 0 = ss := List.take_of_length_le (by have := HL.out; omega)
          show Lm.rowL ss = _
          unfold Lm.rowL
          rw [if_pos ((Lm.rowOk_iff ss).2 ⟨by have := HL.out; omega, hall'⟩), e, HL.out]
        have HNE : Hid (Lm.lenL 0 ++ Lm.body (ss.take 0) ≠ []) := by
          show _ ≠ _
          have := Lm.lenL_pos 0
          intro h; have h' := congrArg List.length h; rw [List.length_append, List.length_nil] at h'; omega
        clear hall hall'
        go_wp2_with fail
        refine (string_any w.heap.size w.heap.size _ _ HBk.out HNE.out).mono ?_
        rintro e w4 ⟨rfl, hb4⟩
        go_wp2_with fail
        go_ret2
        refine ⟨?_, hbk.trans hb4⟩
        rw [HF.out]
        rfl
    · go_enter Try.func22, Try.ntmps22
      go_wp2_with fail
      refine (length_any n hn _).mono ?_
      rintro e w1 ⟨rfl, hb1⟩
      go_wp2_with fail
      refine (write_bytes w.heap.size w.heap.size [] (Lm.lenL n) _ (.inl (bld_below (bld_new w _ rfl) hb1)) (by have := Lm.lenL_le n; simp; omega) (by have := hb1.size; simp at this; omega)).mono ?_
      rintro e w2 ⟨rfl, hbl2, hb2⟩
      have hbw : Below w.heap.size w w2 := (((Below.refl _ _).alloc (Nat.le_refl _) _).trans (hb1.mono (by simp))).trans hb2
      have HBL : Hid (Lib.BuilderAt 69 5 w.heap.size w.heap.size (.pointer (some ⟨w.heap.size, 0, none⟩)) (Lib.byteCells (Lm.lenL n ++ Lm.body (ss.take 0))) w2) := by
        have h := hbl2
        rw [List.nil_append] at h
        show Lib.BuilderAt _ _ _ _ _ _ _
        simpa [Lm.body] using h
      clear hbl2 hb2 hb1
      go_wp2_with fail
      go_loopw [17] (fun i wr => ∃ k : Nat, k ≤ n ∧ i = .int .i64 k ∧ (∀ t ∈ ss.take k, t.length ≤ 65535) ∧ Hid (Lib.BuilderAt 69 5 w.heap.size w.heap.size (.pointer (some ⟨w.heap.size, 0, none⟩)) (Lib.byteCells (Lm.lenL n ++ Lm.body (ss.take k))) wr) ∧ Below w.heap.size w wr)
        (fun i _ => n - (intOf i).toNat)
      case atStart => exact ⟨0, Nat.zero_le _, rfl, by simp, HBL, hbw⟩
      case round =>
        obtain ⟨k, hk, rfl, hall, HBk, hbk⟩ := hrel
        by_cases hlt : k < n
        · have hks : k < ss.length := by have := HL.out; omega
          have hcx : wr.cell? ⟨b, off + k, none⟩ = some (.string ⟨ss[k].toArray⟩) := (hbk.cell (p := ⟨b, off + k, none⟩) hblt).trans (HC.out k hks)
          have hle : ss[k].length ≤ 140737488351232 := HLe.out _ (List.getElem_mem hks)
          by_cases hkb : 65535 < ss[k].length
          · have HF : Hid (Lm.rowL ss = ([], 4)) := by
              show Lm.rowL ss = _
              unfold Lm.rowL
              rw [if_neg]
              rw [Lm.rowOk_iff]
              rintro ⟨-, h⟩
              have := h _ (List.getElem_mem hks)
              omega
            go_wp2_with fail
            refine (text_big ss[k] (by omega) hkb _).mono ?_
            rintro e w3 ⟨rfl, hb3⟩
            go_wp2_with fail
            go_ret2
            refine ⟨?_, bel_trans hbk hb3⟩
            rw [HF.out]
            rfl
          · have hln : (Lm.lenL n ++ Lm.body (ss.take k)).length ≤ 3 + 65538 * 65535 := by
              rcases HB.out k with h | h
              · exact h
              · exact absurd hall h
            have HT : Hid (ss.take (k + 1) = ss.take k ++ [ss[k]]) := List.take_succ_eq_append_getElem hks
            have hl3 := Lm.lenL_le ss[k].length
            have HLN : Hid ((Lm.lenL n ++ Lm.body (ss.take k)).length ≤ 3 + 65538 * 65535) := hln
            have HALL : Hid (∀ t ∈ ss.take (k + 1), t.length ≤ 65535) := by
              show ∀ t ∈ ss.take (k + 1), t.length ≤ 65535
              rw [HT.out]
              intro t ht
              rcases List.mem_append.1 ht with h | h
              · exact hall t h
              · simp at h; subst h; omega
            clear hln hall
            go_wp2_with fail
            refine (text_ok ss[k] hkb _).mono ?_
            rintro e w3 ⟨rfl, hb3⟩
            go_wp2_with fail
            refine (write_bytes w.heap.size w.heap.size (Lm.lenL n ++ Lm.body (ss.take k)) (Lm.lenL ss[k].length ++ ss[k]) _ (.inr (bld_below HBk.out hb3)) (by have := HLN.out; simp only [List.length_append] at this ⊢; omega) (by have := hb3.size; have := hbk.size; omega)).mono ?_
            rintro e w4 ⟨rfl, hbl4, hb4⟩
            have HBL4 : Hid (Lib.BuilderAt 69 5 w.heap.size w.heap.size (.pointer (some ⟨w.heap.size, 0, none⟩)) (Lib.byteCells (Lm.lenL n ++ Lm.body (ss.take (k + 1)))) w4) := by
              show Lib.BuilderAt _ _ _ _ _ _ _
              rw [HT.out, Lm.body_snoc, ← List.append_assoc]
              exact hbl4
            have hbk4 : Below w.heap.size w w4 := (bel_trans hbk hb3).trans hb4
            clear hbl4 hb4 hb3
            go_wp2_with fail
            go_roundw
            case rel => exact ⟨k + 1, by omega, by go_num, HALL.out, HBL4, hbk4⟩
            case measure => simp [intOf]; omega
        · obtain rfl : k = n := by omega
          have hall' : ∀ t ∈ ss, t.length ≤ 65535 := by
            have e : ss.take k = ss := List.take_of_length_le (by have := HL.out; omega)
            rwa [e] at hall
          have HF : Hid (Lm.rowL ss = (Lm.lenL k ++ Lm.body (ss.take k), 0)) := by
            have e : ss.take k = ss := List.take_of_length_le (by have := HL.out; omega)
            show Lm.rowL ss = _
            unfold Lm.rowL
            rw [if_pos ((Lm.rowOk_iff ss).2 ⟨by have := HL.out; omega, hall'⟩), e, HL.out]
          have HNE : Hid (Lm.lenL k ++ Lm.body (ss.take k) ≠ []) := by
            show _ ≠ _
            have := Lm.lenL_pos k
            intro h; have h' := congrArg List.length h; rw [List.length_append, List.length_nil] at h'; omega
          clear hall hall'
          go_wp2_with fail
          refine (string_any w.heap.size w.heap.size _ _ HBk.out HNE.out).mono ?_
          rintro e w4 ⟨rfl, hb4⟩
          go_wp2_with fail
          go_ret2
          refine ⟨?_, hbk.trans hb4⟩
          rw [HF.out]
          rfl
theorem row_good (a : Option Addr) (n cap : Nat) (ss : List (List UInt8)) (w : World) (h : IsStrs w a n ss) (hok : Lm.rowOk ss = true) :
    Calls Try.prog 22 #[.slice a n cap] w fun e w' => e = .returned (.tuple #[.string ⟨(Lm.lenL n ++ Lm.body ss).toArray⟩, .int .i64 0]) ∧ Below w.heap.size w w' := by
  have := row_any a n cap ss w h
  unfold Lm.rowL at this
  rw [if_pos hok, h.1] at this
  exact this
theorem row_bad (a : Option Addr) (n cap : Nat) (ss : List (List UInt8)) (w : World) (h : IsStrs w a n ss) (hok : ¬ Lm.rowOk ss = true) :
    Calls Try.prog 22 #[.slice a n cap] w fun e w' => e = .returned (.tuple #[.string ⟨#[]⟩, .int .i64 4]) ∧ Below w.heap.size w w' := by
  have := row_any a n cap ss w h
  unfold Lm.rowL at this
  rw [if_neg hok] at this
  exact this
theorem row_goodT (a : Option Addr) (n cap : Nat) (ss : List (List UInt8)) (T : List UInt8) (hT : Lm.lenL n ++ Lm.body ss = T) (w : World) (h : IsStrs w a n ss) (hok : Lm.rowOk ss = true) :
    Calls Try.prog 22 #[.slice a n cap] w fun e w' => e = .returned (.tuple #[.string ⟨T.toArray⟩, .int .i64 0]) ∧ Below w.heap.size w w' := by
  subst hT; exact row_good a n cap ss w h hok
end Go.Proofs.Ytpplplemjccdjaa
