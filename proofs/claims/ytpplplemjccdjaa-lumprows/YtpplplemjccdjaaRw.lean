/-
  What lump.Row answers, at whatever row of texts.
-/
import Derived.Test.YtpplplemjccdjaaProg
import Derived.Test.YtpplplemjccdjaaMath
import Derived.Test.YtpplplemjccdjaaBase
import Derived.Test.YtpplplemjccdjaaLen
import Derived.Test.YtpplplemjccdjaaBld
import Derived.Test.YtpplplemjccdjaaTakes
import Derived.BigQuiet
import Derived.Deep.QuietTactic
namespace Go.Proofs.Ytpplplemjccdjaa
open Go.RowKit
attribute [local go_sem] ba_size ba_get ba_extract ba_append wrap_byte wrap_u64_byte take_drop_end
/-- A slice of n texts that came in: each of its cells holds the text. -/
def IsStrs (w : World) (a : Option Addr) (n : Nat) (ss : List (List UInt8)) : Prop :=
  ss.length = n ∧ (∀ s ∈ ss, s.length ≤ 140737488351232) ∧ n ≤ 140737488351232 ∧
  (n = 0 ∨ ∃ b off, a = some ⟨b, off, none⟩ ∧ b < w.heap.size ∧ ∀ i (h : i < ss.length), w.cell? ⟨b, off + i, none⟩ = some (.string ⟨ss[i].toArray⟩))
theorem IsStrs.below {w w' : World} {a : Option Addr} {n : Nat} {ss : List (List UInt8)} (h : IsStrs w a n ss) (hb : Below w.heap.size w w') : IsStrs w' a n ss := by
  obtain ⟨h1, h2, h3, h4⟩ := h
  refine ⟨h1, h2, h3, ?_⟩
  rcases h4 with h4 | ⟨b, off, ha, hlt, hc⟩
  · exact .inl h4
  · refine .inr ⟨b, off, ha, Nat.lt_of_lt_of_le hlt hb.size, fun i hi => ?_⟩
    rw [hb.cell (p := ⟨b, off + i, none⟩) hlt]
    exact hc i hi
theorem owns_below {B e k n : Nat} {v : Value} {xs : List Value} {w w' : World} (h : w.ownsRow B e k v n xs) (hb : Below w.heap.size w w') : w'.ownsRow B e k v n xs := by
  obtain ⟨h1, h2⟩ := h
  refine ⟨h1, ?_⟩
  rcases h2 with h2 | ⟨g, cap, cur, hv, hbg, hg, r⟩
  · exact .inl h2
  · have hlt : g < w.heap.size := by
      rcases Nat.lt_or_ge g w.heap.size with h' | h'
      · exact h'
      · simp [Array.getElem?_eq_none h'] at hg
    exact .inr ⟨g, cap, cur, hv, hbg, (hb.block g hlt).trans hg, r⟩
theorem bld_below {B b : Nat} {p : Value} {bs : List Value} {w w' : World} (h : Lib.BuilderAt 69 5 B b p bs w) (hb : Below w.heap.size w w') : Lib.BuilderAt 69 5 B b p bs w' := by
  have hlt := h.lt
  obtain ⟨hB, v, hbk, hown, hne⟩ := h
  exact ⟨hB, v, (hb.block b hlt).trans hbk, owns_below hown hb, hne⟩
theorem strCells_list (l : List UInt8) : Lib.strCells ⟨l.toArray⟩ = Lib.byteCells l := by
  simp [Lib.strCells, Lib.byteCells]
theorem byteCells_append (a b : List UInt8) : Lib.byteCells a ++ Lib.byteCells b = Lib.byteCells (a ++ b) := by
  simp [Lib.byteCells]
theorem bld_new (w : World) (o : Array Value) (ho : o = #[.pointer none, .slice none 0 0]) : Lib.BuilderAt 69 5 w.heap.size w.heap.size (.pointer none) [] (w.alloc (.cells o 69)) := by
  subst ho
  refine ⟨Nat.le_refl _, .slice none 0 0, ?_, World.ownsRow_nil _ _ _ _, by simp [Value.ownBlock]⟩
  show (w.heap.push _)[w.heap.size]? = _
  simp
/-- WriteString, as the walks of Row want it. -/
theorem write_bytes (B b : Nat) (l s : List UInt8) (w : World) (h : Lib.IsBuilder 69 5 B b (Lib.byteCells l) w) (hlen : l.length + s.length ≤ 140737488355328) (hBw : B ≤ w.heap.size) :
    Calls Try.prog 31 #[.pointer (some ⟨b, 0, none⟩), .string ⟨s.toArray⟩] w fun e w' => e = .returned (.tuple #[.int .i64 s.length, .nilIface]) ∧ (Lib.BuilderAt 69 5 B b (.pointer (some ⟨b, 0, none⟩)) (Lib.byteCells (l ++ s)) w' ∧ Below B w w') := by
  have h1 := writeString_any B b (Lib.byteCells l) ⟨s.toArray⟩ w h (by rw [Lib.byteCells_length, ba_size]; exact hlen) hBw
  rw [strCells_list, byteCells_append, ba_size] at h1
  exact h1
set_option maxHeartbeats 1000000 in
theorem row_any (a : Option Addr) (n cap : Nat) (ss : List (List UInt8)) (w : World) (h : IsStrs w a n ss) :
    Calls Try.prog 22 #[.slice a n cap] w fun e w' => e = .returned (.tuple #[.string ⟨(Lm.rowL ss).1.toArray⟩, .int .i64 ((Lm.rowL ss).2 : Int)]) ∧ Below w.heap.size w w' := by
  by_cases hbig : 65535 < n
  · have e : Lm.rowL ss = ([], 4) := by
      unfold Lm.rowL; rw [if_neg]; rw [Lm.rowOk_iff]; have := h.1; omega
    rw [e]
    obtain ⟨h1, h2, h3, h4⟩ := h
    have hn : n ≤ 140737488351232 := h3
    go_enter Try.func22, Try.ntmps22
    go_wp2
    go_ret2
    exact ⟨rfl, Below.refl _ _⟩
  · have HS : Hid (IsStrs w a n ss) := h
    have hsl : ss.length = n := h.1
    have hn : n ≤ 65535 := by omega
    have HL : Hid (ss.length = n) := hsl
    have hor : n = 0 ∨ ∃ b off, 0 < n ∧ a = some ⟨b, off, none⟩ ∧ b < w.heap.size ∧ Hid (∀ i (h : i < ss.length), w.cell? ⟨b, off + i, none⟩ = some (.string ⟨ss[i].toArray⟩)) := by
      rcases h.2.2.2 with h0 | ⟨b, off, ha, hlt, hc⟩
      · exact .inl h0
      · by_cases h0 : n = 0
        · exact .inl h0
        · exact .inr ⟨b, off, by omega, ha, hlt, hc⟩
    have HLe : Hid (∀ s ∈ ss, s.length ≤ 140737488351232) := h.2.1
    clear hsl h HS
    have hni : (n : Int) ≤ 65535 := by omega
    have HB : Hid (∀ k, (Lm.lenL n ++ Lm.body (ss.take k)).length ≤ 3 + 65538 * 65535 ∨ ¬ ∀ t ∈ ss.take k, t.length ≤ 65535) := by
      intro k
      by_cases hk : ∀ t ∈ ss.take k, t.length ≤ 65535
      · left
        have h1 := Lm.body_length (ss.take k) hk
        have h2 := Lm.lenL_le n
        have h3 : (ss.take k).length ≤ 65535 := by have := HL.out; simp; omega
        simp only [List.length_append]; omega
      · exact .inr hk
    rcases hor with rfl | ⟨b, off, hn0, rfl, hblt, HC⟩
    · go_enter Try.func22, Try.ntmps22
      go_wp2_with fail
      refine (length_any 0 (by omega) _).mono ?_
      rintro e w1 ⟨rfl, hb1⟩
      go_wp2_with fail
      refine (write_bytes w.heap.size w.heap.size [] (Lm.lenL 0) _ (.inl (bld_below (bld_new w _ rfl) hb1)) (by simp [Lm.lenL]) (by have := hb1.size; simp at this; omega)).mono ?_
      rintro e w2 ⟨rfl, hbl2, hb2⟩
      have hbw : Below w.heap.size w w2 := (((Below.refl _ _).alloc (Nat.le_refl _) _).trans (hb1.mono (by simp))).trans hb2
      have HBL : Hid (Lib.BuilderAt 69 5 w.heap.size w.heap.size (.pointer (some ⟨w.heap.size, 0, none⟩)) (Lib.byteCells (Lm.lenL 0 ++ Lm.body (ss.take 0))) w2) := by
        have h := hbl2
        rw [List.nil_append] at h
        show Lib.BuilderAt _ _ _ _ _ _ _
        simpa [Lm.body] using h
      clear hbl2 hb2 hb1
      go_wp2_with fail
      go_loopw [17] (fun i wr => ∃ k : Nat, k ≤ 0 ∧ i = .int .i64 k ∧ (∀ t ∈ ss.take k, t.length ≤ 65535) ∧ Hid (Lib.BuilderAt 69 5 w.heap.size w.heap.size (.pointer (some ⟨w.heap.size, 0, none⟩)) (Lib.byteCells (Lm.lenL 0 ++ Lm.body (ss.take k))) wr) ∧ Below w.heap.size w wr)
        (fun i _ => 0 - (intOf i).toNat)
      case atStart => exact ⟨0, Nat.zero_le _, rfl, by simp, HBL, hbw⟩
      case round =>
        obtain ⟨k, hk, rfl, hall, HBk, hbk⟩ := hrel
        obtain rfl : k = 0 := by omega
        have hlt : ¬ (0 : Int) < 0 := by omega
        clear hlt
        have hall' : ∀ t ∈ ss, t.length ≤ 65535 := by
          have e : ss.take 0 = ss := List.take_of_length_le (by have := HL.out; omega)
          rwa [e] at hall
        have HF : Hid (Lm.rowL ss = (Lm.lenL 0 ++ Lm.body (ss.take 0), 0)) := by
          have e : ss.take 0 = ss := List.take_of_length_le (by have := HL.out; omega)
          show Lm.rowL ss = _
          unfold Lm.rowL
          rw [if_pos ((Lm.rowOk_iff ss).2 ⟨by have := HL.out; omega, hall'⟩), e, HL.out]
        have HNE : Hid (Lm.lenL 0 ++ Lm.body (ss.take 0) ≠ []) := by
          show _ ≠ _
          have := Lm.lenL_pos 0
          intro h; have h' := congrArg List.length h; rw [List.length_append, List.length_nil] at h'; omega
        clear hall hall'
        go_wp2_with fail
        refine (string_any w.heap.size w.heap.size _ _ HBk.out HNE.out).mono ?_
        rintro e w4 ⟨rfl, hb4⟩
        go_wp2_with fail
        go_ret2
        refine ⟨?_, hbk.trans hb4⟩
        rw [HF.out]
        rfl
    · go_enter Try.func22, Try.ntmps22
      go_wp2_with fail
      refine (length_any n hn _).mono ?_
      rintro e w1 ⟨rfl, hb1⟩
      go_wp2_with fail
      refine (write_bytes w.heap.size w.heap.size [] (Lm.lenL n) _ (.inl (bld_below (bld_new w _ rfl) hb1)) (by have := Lm.lenL_le n; simp; omega) (by have := hb1.size; simp at this; omega)).mono ?_
      rintro e w2 ⟨rfl, hbl2, hb2⟩
      have hbw : Below w.heap.size w w2 := (((Below.refl _ _).alloc (Nat.le_refl _) _).trans (hb1.mono (by simp))).trans hb2
      have HBL : Hid (Lib.BuilderAt 69 5 w.heap.size w.heap.size (.pointer (some ⟨w.heap.size, 0, none⟩)) (Lib.byteCells (Lm.lenL n ++ Lm.body (ss.take 0))) w2) := by
        have h := hbl2
        rw [List.nil_append] at h
        show Lib.BuilderAt _ _ _ _ _ _ _
        simpa [Lm.body] using h
      clear hbl2 hb2 hb1
      go_wp2_with fail
      go_loopw [17] (fun i wr => ∃ k : Nat, k ≤ n ∧ i = .int .i64 k ∧ (∀ t ∈ ss.take k, t.length ≤ 65535) ∧ Hid (Lib.BuilderAt 69 5 w.heap.size w.heap.size (.pointer (some ⟨w.heap.size, 0, none⟩)) (Lib.byteCells (Lm.lenL n ++ Lm.body (ss.take k))) wr) ∧ Below w.heap.size w wr)
        (fun i _ => n - (intOf i).toNat)
      case atStart => exact ⟨0, Nat.zero_le _, rfl, by simp, HBL, hbw⟩
      case round =>
        obtain ⟨k, hk, rfl, hall, HBk, hbk⟩ := hrel
        by_cases hlt : k < n
        · have hks : k < ss.length := by have := HL.out; omega
          have hcx : wr.cell? ⟨b, off + k, none⟩ = some (.string ⟨ss[k].toArray⟩) := (hbk.cell (p := ⟨b, off + k, none⟩) hblt).trans (HC.out k hks)
          have hle : ss[k].length ≤ 140737488351232 := HLe.out _ (List.getElem_mem hks)
          by_cases hkb : 65535 < ss[k].length
          · have HF : Hid (Lm.rowL ss = ([], 4)) := by
              show Lm.rowL ss = _
              unfold Lm.rowL
              rw [if_neg]
              rw [Lm.rowOk_iff]
              rintro ⟨-, h⟩
              have := h _ (List.getElem_mem hks)
              omega
            go_wp2_with fail
            refine (text_big ss[k] (by omega) hkb _).mono ?_
            rintro e w3 ⟨rfl, hb3⟩
            go_wp2_with fail
            go_ret2
            refine ⟨?_, bel_trans hbk hb3⟩
            rw [HF.out]
            rfl
          · have hln : (Lm.lenL n ++ Lm.body (ss.take k)).length ≤ 3 + 65538 * 65535 := by
              rcases HB.out k with h | h
              · exact h
              · exact absurd hall h
            have HT : Hid (ss.take (k + 1) = ss.take k ++ [ss[k]]) := List.take_succ_eq_append_getElem hks
            have hl3 := Lm.lenL_le ss[k].length
            have HLN : Hid ((Lm.lenL n ++ Lm.body (ss.take k)).length ≤ 3 + 65538 * 65535) := hln
            have HALL : Hid (∀ t ∈ ss.take (k + 1), t.length ≤ 65535) := by
              show ∀ t ∈ ss.take (k + 1), t.length ≤ 65535
              rw [HT.out]
              intro t ht
              rcases List.mem_append.1 ht with h | h
              · exact hall t h
              · simp at h; subst h; omega
            clear hln hall
            go_wp2_with fail
            refine (text_ok ss[k] hkb _).mono ?_
            rintro e w3 ⟨rfl, hb3⟩
            go_wp2_with fail
            refine (write_bytes w.heap.size w.heap.size (Lm.lenL n ++ Lm.body (ss.take k)) (Lm.lenL ss[k].length ++ ss[k]) _ (.inr (bld_below HBk.out hb3)) (by have := HLN.out; simp only [List.length_append] at this ⊢; omega) (by have := hb3.size; have := hbk.size; omega)).mono ?_
            rintro e w4 ⟨rfl, hbl4, hb4⟩
            have HBL4 : Hid (Lib.BuilderAt 69 5 w.heap.size w.heap.size (.pointer (some ⟨w.heap.size, 0, none⟩)) (Lib.byteCells (Lm.lenL n ++ Lm.body (ss.take (k + 1)))) w4) := by
              show Lib.BuilderAt _ _ _ _ _ _ _
              rw [HT.out, Lm.body_snoc, ← List.append_assoc]
              exact hbl4
            have hbk4 : Below w.heap.size w w4 := (bel_trans hbk hb3).trans hb4
            clear hbl4 hb4 hb3
            go_wp2_with fail
            go_roundw
            case rel => exact ⟨k + 1, by omega, by go_num, HALL.out, HBL4, hbk4⟩
            case measure => simp [intOf]; omega
        · obtain rfl : k = n := by omega
          have hall' : ∀ t ∈ ss, t.length ≤ 65535 := by
            have e : ss.take k = ss := List.take_of_length_le (by have := HL.out; omega)
            rwa [e] at hall
          have HF : Hid (Lm.rowL ss = (Lm.lenL k ++ Lm.body (ss.take k), 0)) := by
            have e : ss.take k = ss := List.take_of_length_le (by have := HL.out; omega)
            show Lm.rowL ss = _
            unfold Lm.rowL
            rw [if_pos ((Lm.rowOk_iff ss).2 ⟨by have := HL.out; omega, hall'⟩), e, HL.out]
          have HNE : Hid (Lm.lenL k ++ Lm.body (ss.take k) ≠ []) := by
            show _ ≠ _
            have := Lm.lenL_pos k
            intro h; have h' := congrArg List.length h; rw [List.length_append, List.length_nil] at h'; omega
          clear hall hall'
          go_wp2_with fail
          refine (string_any w.heap.size w.heap.size _ _ HBk.out HNE.out).mono ?_
          rintro e w4 ⟨rfl, hb4⟩
          go_wp2_with fail
          go_ret2
          refine ⟨?_, hbk.trans hb4⟩
          rw [HF.out]
          rfl
end Go.Proofs.Ytpplplemjccdjaa
