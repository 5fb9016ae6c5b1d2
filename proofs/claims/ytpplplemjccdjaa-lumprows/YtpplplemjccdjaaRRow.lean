/-
  What cartoucheref01.Row answers, at whatever row of texts.
-/
import Derived.Test.YtpplplemjccdjaaRText
import Derived.Test.YtpplplemjccdjaaStrs
import Derived.Test.YtpplplemjccdjaaMark
import Derived.Test.YtpplplemjccdjaaBytes
import Derived.Test.YtpplplemjccdjaaByteInfo
namespace Go.Proofs.Ytpplplemjccdjaa
open Go.RowKit
attribute [local go_sem] ba_size ba_get ba_extract ba_append wrap_byte wrap_u64_byte take_drop_end
set_option maxHeartbeats 1000000 in
theorem refRow_any (a : Option Addr) (n cap : Nat) (ss : List (List UInt8)) (w : World) (h : IsStrs w a n ss) :
    Calls Try.prog 23 #[.slice a n cap] w fun e w' => e = .returned (.tuple #[.string ⟨(Lm.rowL ss).1.toArray⟩, .int .i64 ((Lm.rowL ss).2 : Int)]) ∧ Below w.heap.size w w' := by
  by_cases hbig : 65535 < n
  · have e : Lm.rowL ss = ([], 4) := by
      unfold Lm.rowL; rw [if_neg]; rw [Lm.rowOk_iff]; have := h.1; omega
    rw [e]
    obtain ⟨h1, h2, h3, h4⟩ := h
    have hn : n ≤ 140737488351232 := h3
    go_enter Try.func23, Try.ntmps23
    go_wp2
    go_ret2
    exact ⟨rfl, Below.refl _ _⟩
  · have hsl : ss.length = n := h.1
    have hn : n ≤ 65535 := by omega
    have HL : Hid (ss.length = n) := hsl
    have hor : n = 0 ∨ ∃ b off, 0 < n ∧ a = some ⟨b, off, none⟩ ∧ b < w.heap.size ∧ Hid (∀ i (h : i < ss.length), w.cell? ⟨b, off + i, none⟩ = some (.string ⟨ss[i].toArray⟩)) := by
      rcases h.2.2.2 with h0 | ⟨b, off, ha, hlt, hc⟩
      · exact .inl h0
      · by_cases h0 : n = 0
        · exact .inl h0
        · exact .inr ⟨b, off, by omega, ha, hlt, hc⟩
    have HLe : Hid (∀ s ∈ ss, s.length ≤ 140737488351232) := h.2.1
    clear hsl h
    have hni : (n : Int) ≤ 65535 := by omega
    have HB : Hid (∀ k, (Lm.lenL n ++ Lm.body (ss.take k)).length ≤ 3 + 65538 * 65535 ∨ ¬ ∀ t ∈ ss.take k, t.length ≤ 65535) := by
      intro k
      by_cases hk : ∀ t ∈ ss.take k, t.length ≤ 65535
      · left
        have h1 := Lm.body_length (ss.take k) hk
        have h2 := Lm.lenL_le n
        have h3 : (ss.take k).length ≤ 65535 := by have := HL.out; simp; omega
        simp only [List.length_append]; omega
      · exact .inr hk
    obtain ⟨i0, hi, hz0, hz1, hz2⟩ := info_parts byte_info
    have hcv := fun W => Lib.run_convert_string_bytes (P := Try.prog) W 9 62 5 ⟨(Lm.lenL n).toArray⟩ Try.underlying9 Try.underlying62 Try.underlying5
    rcases hor with rfl | ⟨b, off, hn0, rfl, hblt, HC⟩
    · go_enter Try.func23, Try.ntmps23
      go_wp2_with fail
      refine (size_any 0 (by omega) _).mono ?_
      rintro e w1 ⟨rfl, hb1⟩
      have hbw : Below w.heap.size w (Lib.bytesWorld w1 5 ⟨(Lm.lenL 0).toArray⟩) := bel_trans hb1 (bytesWorld_bel w1 5 _)
      have HO0 : Hid (OwnB (Lib.bytesWorld w1 5 ⟨(Lm.lenL 0).toArray⟩) w.heap.size 5 (.slice (some ⟨w1.heap.size, 0, none⟩) (Lm.lenL 0).length (grownCap w1 (Lm.lenL 0).length 0 5)) (Lm.lenL 0 ++ Lm.body (ss.take 0)).length (Lib.byteCells (Lm.lenL 0 ++ Lm.body (ss.take 0)))) := by
        have h := (ownB_of_bytes w1 5 ⟨(Lm.lenL 0).toArray⟩ (by rw [ba_size]; have := Lm.lenL_le 0; unfold maxLen; omega)).mono hb1.size
        rw [strCells_list, ba_size] at h
        show OwnB _ _ _ _ _ _
        simpa [Lm.body] using h
      go_wp2_with fail
      clear hcv hb1
      go_loopw [4, 5] (fun v i wr => ∃ k : Nat, k ≤ 0 ∧ i = .int .i64 k ∧ (∀ t ∈ ss.take k, t.length ≤ 65535) ∧ Hid (OwnB wr w.heap.size 5 v (Lm.lenL 0 ++ Lm.body (ss.take k)).length (Lib.byteCells (Lm.lenL 0 ++ Lm.body (ss.take k)))) ∧ Below w.heap.size w wr)
        (fun _ i _ => 0 - (intOf i).toNat)
      case atStart => exact ⟨0, Nat.zero_le _, rfl, by simp, HO0, hbw⟩
      case round =>
        obtain ⟨k, hk, rfl, hall, HO, hbk⟩ := hrel
        obtain rfl : k = 0 := by omega
        have hall' : ∀ t ∈ ss, t.length ≤ 65535 := by
          have e : ss.take 0 = ss := List.take_of_length_le (by have := HL.out; omega)
          rwa [e] at hall
        have HF : Hid (Lm.rowL ss = (Lm.lenL 0 ++ Lm.body (ss.take 0), 0)) := by
          have e : ss.take 0 = ss := List.take_of_length_le (by have := HL.out; omega)
          show Lm.rowL ss = _
          unfold Lm.rowL
          rw [if_pos ((Lm.rowOk_iff ss).2 ⟨by have := HL.out; omega, hall'⟩), e, HL.out]
        have hst := HO.out.string (P := Try.prog) 62 9 Try.underlying62 Try.underlying5 Try.underlying9
        clear hall hall'
        go_wp2_with fail
        go_ret2
        refine ⟨?_, hbk⟩
        rw [HF.out]
        rfl
    · go_enter Try.func23, Try.ntmps23
      go_wp2_with fail
      refine (size_any n (by omega) _).mono ?_
      rintro e w1 ⟨rfl, hb1⟩
      have hbw : Below w.heap.size w (Lib.bytesWorld w1 5 ⟨(Lm.lenL n).toArray⟩) := bel_trans hb1 (bytesWorld_bel w1 5 _)
      have HO0 : Hid (OwnB (Lib.bytesWorld w1 5 ⟨(Lm.lenL n).toArray⟩) w.heap.size 5 (.slice (some ⟨w1.heap.size, 0, none⟩) (Lm.lenL n).length (grownCap w1 (Lm.lenL n).length 0 5)) (Lm.lenL n ++ Lm.body (ss.take 0)).length (Lib.byteCells (Lm.lenL n ++ Lm.body (ss.take 0)))) := by
        have h := (ownB_of_bytes w1 5 ⟨(Lm.lenL n).toArray⟩ (by rw [ba_size]; have := Lm.lenL_le n; unfold maxLen; omega)).mono hb1.size
        rw [strCells_list, ba_size] at h
        show OwnB _ _ _ _ _ _
        simpa [Lm.body] using h
      go_wp2_with fail
      clear hcv hb1
      go_loopw [4, 5] (fun v i wr => ∃ k : Nat, k ≤ n ∧ i = .int .i64 k ∧ (∀ t ∈ ss.take k, t.length ≤ 65535) ∧ Hid (OwnB wr w.heap.size 5 v (Lm.lenL n ++ Lm.body (ss.take k)).length (Lib.byteCells (Lm.lenL n ++ Lm.body (ss.take k)))) ∧ Below w.heap.size w wr)
        (fun _ i _ => n - (intOf i).toNat)
      case atStart => exact ⟨0, Nat.zero_le _, rfl, by simp, HO0, hbw⟩
      case round =>
        obtain ⟨k, hk, rfl, hall, HO, hbk⟩ := hrel
        by_cases hlt : k < n
        · have hks : k < ss.length := by have := HL.out; omega
          have hcx : wr.cell? ⟨b, off + k, none⟩ = some (.string ⟨ss[k].toArray⟩) := (hbk.cell (p := ⟨b, off + k, none⟩) hblt).trans (HC.out k hks)
          have hle : ss[k].length ≤ 140737488351232 := HLe.out _ (List.getElem_mem hks)
          by_cases hkb : 65535 < ss[k].length
          · have HF : Hid (Lm.rowL ss = ([], 4)) := by
              show Lm.rowL ss = _
              unfold Lm.rowL
              rw [if_neg]
              rw [Lm.rowOk_iff]
              rintro ⟨-, h⟩
              have := h _ (List.getElem_mem hks)
              omega
            go_wp2_with fail
            refine (refText_big ss[k] (by omega) hkb _).mono ?_
            rintro e w3 ⟨rfl, hb3⟩
            go_wp2_with fail
            go_ret2
            refine ⟨?_, bel_trans hbk hb3⟩
            rw [HF.out]
            rfl
          · have HLN : Hid ((Lm.lenL n ++ Lm.body (ss.take k)).length ≤ 3 + 65538 * 65535) := by
              rcases HB.out k with h | h
              · exact h
              · exact absurd hall h
            have HT : Hid (ss.take (k + 1) = ss.take k ++ [ss[k]]) := List.take_succ_eq_append_getElem hks
            have hl3 := Lm.lenL_le ss[k].length
            have HALL : Hid (∀ t ∈ ss.take (k + 1), t.length ≤ 65535) := by
              show ∀ t ∈ ss.take (k + 1), t.length ≤ 65535
              rw [HT.out]
              intro t ht
              rcases List.mem_append.1 ht with h | h
              · exact hall t h
              · simp at h; subst h; omega
            clear hall
            go_wp2_with fail
            refine (refText_ok ss[k] hkb _).mono ?_
            rintro e w3 ⟨rfl, hb3⟩
            have hs3 := hb3.size
            have hs4 := hbk.size
            have HO3 : Hid (OwnB w3 w.heap.size 5 u4 (Lm.lenL n ++ Lm.body (ss.take k)).length (Lib.byteCells (Lm.lenL n ++ Lm.body (ss.take k)))) := HO.out.below hb3
            obtain ⟨T, hT⟩ : ∃ T, T = Lm.lenL n ++ Lm.body (ss.take k) := ⟨_, rfl⟩
            have HO3' : Hid (OwnB w3 w.heap.size 5 u4 T.length (Lib.byteCells T)) := by rw [hT]; exact HO3
            have HLT : Hid (T.length ≤ 3 + 65538 * 65535) := by rw [hT]; exact HLN
            have HTT : Hid (T = Lm.lenL n ++ Lm.body (ss.take k)) := hT
            clear hT HO3
            go_wp2_with (at_builtin; refine wpList_appendB _ rfl _ _ 62 9 rfl w.heap.size 5 i0 Try.underlying62 Try.underlying9 hi hz0 hz1 hz2 _ _ _ rfl HO3'.out ⟨(Lm.lenL ss[k].length ++ ss[k]).toArray⟩ rfl ?d1 ?d2 ?d3 ?_)
            case d1 => have := HLT.out; rw [ba_size, List.length_append]; unfold maxLen; omega
            case d2 => have := HLT.out; rw [ba_size, List.length_append]; omega
            case d3 => omega
            intro v' w4 hown4 hgrow4
            have HO4 : Hid (OwnB w4 w.heap.size 5 v' (Lm.lenL n ++ Lm.body (ss.take (k + 1))).length (Lib.byteCells (Lm.lenL n ++ Lm.body (ss.take (k + 1))))) := by
              show OwnB _ _ _ _ _ _
              have h := hown4
              rw [strCells_list, byteCells_append, ← List.length_append, ← List.length_append, HTT.out] at h
              rw [HT.out, Lm.body_snoc, ← List.append_assoc]
              exact h
            have hbk4 : Below w.heap.size w w4 := (bel_trans hbk hb3).grown hgrow4 (by omega) (fun j hj => (HO3'.out.lt j hj).1)
            clear hown4 hgrow4 hb3
            go_wp2
            go_roundw
            case rel => exact ⟨k + 1, by omega, by go_num, HALL.out, HO4, hbk4⟩
            case measure => simp [intOf]; omega
        · obtain rfl : k = n := by omega
          have hall' : ∀ t ∈ ss, t.length ≤ 65535 := by
            have e : ss.take k = ss := List.take_of_length_le (by have := HL.out; omega)
            rwa [e] at hall
          have HF : Hid (Lm.rowL ss = (Lm.lenL k ++ Lm.body (ss.take k), 0)) := by
            have e : ss.take k = ss := List.take_of_length_le (by have := HL.out; omega)
            show Lm.rowL ss = _
            unfold Lm.rowL
            rw [if_pos ((Lm.rowOk_iff ss).2 ⟨by have := HL.out; omega, hall'⟩), e, HL.out]
          have hst := HO.out.string (P := Try.prog) 62 9 Try.underlying62 Try.underlying5 Try.underlying9
          clear hall hall'
          go_wp2_with fail
          go_ret2
          refine ⟨?_, hbk⟩
          rw [HF.out]
          rfl
end Go.Proofs.Ytpplplemjccdjaa
