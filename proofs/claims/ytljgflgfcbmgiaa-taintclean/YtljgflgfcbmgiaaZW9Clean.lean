/-
  The walk of TaintClean.
-/
import Derived.Test.YtljgflgfcbmgiaaZShown9
import Derived.Test.YtljgflgfcbmgiaaZR9All
import Derived.Test.YtljgflgfcbmgiaaZBads9c
import Derived.Test.YtljgflgfcbmgiaaZRecSrc
import Derived.Deep.RegionHeld3
import Derived.BigQuiet
import Derived.Deep.QuietTactic
namespace Go.Proofs.Ytljgflgfcbmgiaa
set_option maxRecDepth 100000
open Go.RowKit
set_option linter.unusedVariables false
attribute [local go_sem] ba_size ba_append ba_get ba_extract
set_option maxHeartbeats 4000000 in
theorem clean9_walk (C : P9C) (w : World) (vh : Value) (h : List Ev) (Th : IsEvs w vh h) (Gh : ∀ x ∈ h, goodE x) :
    Calls Try.prog 5 #[vh] w fun e w' => e = .returned (.bool true) ∧ Below w.heap.size w w' := by
  have HSh : Hid (∀ W, Below w.heap.size w W → Calls Try.prog 9 #[] W fun e w' => e = .returned (.bool true) ∧ Below W.heap.size W w') := fun W h => shown9_any C W
  have HF : Hid (∀ W, Below w.heap.size w W → Calls Try.prog 10 #[vh] W fun e w' => e = .returned (.bool (decide (h.length ≤ 300))) ∧ Below W.heap.size W w') := fun W hb => few9_any vh h W (Th.below hb)
  by_cases h1 : h.length ≤ 300
  · rw [decide_eq_true h1] at HF
    have HAt : Hid (∀ (k : Nat) W, k < h.length → Below w.heap.size w W → Calls Try.prog 15 #[vh, .int .i64 (k : Int)] W fun e w' => e = .returned (badA (atL h k)) ∧ Below W.heap.size W w') := fun k W hk hb => by
      have := C.at_ h vh W (k : Int) (Th.below hb) Gh h1 (by unfold okI; omega)
      rw [atI_nat] at this
      exact this
    have HOu : Hid (∀ (k : Nat) W, k < h.length → Below w.heap.size w W → Calls Try.prog 17 #[vh, .int .i64 (k : Int)] W fun e w' => e = .returned (.bool (outerB h k)) ∧ Below W.heap.size W w') := fun k W hk hb => by
      have := C.outer h vh W (k : Int) (Th.below hb) Gh h1 (by unfold okI; omega)
      rw [outerI_nat] at this
      exact this
    obtain ⟨ah, ch, rfl, ih, jh, kh, HCh⟩ := Th.reads
    obtain ⟨n, hn⟩ : ∃ n, h.length = n := ⟨_, rfl⟩
    have HN : Hid (h.length = n) := hn
    simp only [hn] at HF HAt HOu h1 ih kh ⊢
    clear hn
    obtain ⟨i0, hi, hz0, hz1, hz2⟩ := info_parts ev_info7
    go_enter Try.func5, Try.ntmps5
    go_wp2_with fail
    refine (HSh.out _ (Below.refl w.heap.size w)).mono ?_
    rintro e w1 ⟨rfl, b1⟩
    have B1 := bel_trans (Below.refl w.heap.size w) b1
    go_wp2_with fail
    refine (HF.out _ B1).mono ?_
    rintro e w2 ⟨rfl, b2⟩
    have B2 := bel_trans B1 b2
    go_wp2_with fail
    go_loopw [5, 6] (fun r i wr => ∃ (k c : Nat), k ≤ n ∧ c ≤ k ∧ i = .int .i64 k ∧ Hid ((noReads (h.take k)).length = c) ∧ Below w.heap.size w wr ∧ wr.ownsRow w.heap.size 37 4 r c (recV evV (noReads (h.take k)))) (fun _ i _ => n - (intOf i).toNat)
    case atStart => exact ⟨0, 0, Nat.zero_le _, Nat.zero_le _, rfl, rfl, B2, World.ownsRow_nil _ _ _ _⟩
    case round =>
      obtain ⟨k, c, hk, hc, rfl, HL, hbw, hrow⟩ := hrel
      by_cases hlt : k < n
      · have hk1 : k < h.length := by have := HN.out; omega
        obtain ⟨bb, off, rfl, HQ⟩ := HCh.out (by omega)
        obtain ⟨q0, q1, q2, q3⟩ := HQ.out k hk1 _ hbw
        have hnx := noReads_next h k hk1
        rw [← ev_get h k hk1] at hnx
        obtain ⟨⟨x0, x1, x2, x3⟩, hx⟩ : ∃ x, ev h k = x := ⟨_, rfl⟩
        rw [hx] at q0 q1 q2 q3 hnx
        simp only at q0 q1 q2 q3 hnx
        have HX : Hid (noReads (h.take (k + 1)) = if x0 = 2 then noReads (h.take k) else noReads (h.take k) ++ [(x0, x1, x2, x3)]) := hnx
        clear hx hnx
        by_cases d : x0 = 2
        · have e1 : (x0 != 2) = false := by rw [d]; rfl
          have HV : Hid (noReads (h.take (k + 1)) = noReads (h.take k)) := by show _ = _; rw [HX.out, if_pos d]
          clear d
          go_wp2_with fail
          refine ⟨?relA, ?meaA⟩
          case relA => exact ⟨k + 1, c, by omega, by omega, by first | go_num | simp, by rw [HV.out]; exact HL, hbw, by rw [HV.out]; exact hrow⟩
          case meaA => simp [intOf]; omega
        · have e1 : (x0 != 2) = true := bne_iff_ne.2 d
          have HV : Hid (noReads (h.take (k + 1)) = noReads (h.take k) ++ [(x0, x1, x2, x3)]) := by show _ = _; rw [HX.out, if_neg d]
          have HR : Hid (recV evV (noReads (h.take (k + 1))) = recV evV (noReads (h.take k)) ++ [.int .i64 x0, .int .i64 x1, .string ⟨x2.toArray⟩, .string ⟨x3.toArray⟩]) := by show _ = _; rw [HV.out, recV_append]; rfl
          have HL' : Hid ((noReads (h.take (k + 1))).length = c + 1) := by show _ = _; rw [HV.out, List.length_append, HL.out]; rfl
          obtain ⟨DR, hDR⟩ : ∃ d, recV evV (noReads (h.take k)) = d := ⟨_, rfl⟩
          rw [hDR] at hrow HR
          have sz := hbw.size
          clear hDR
          go_wp2_with (at_builtin; refine wpList_append_own _ rfl _ _ 22 rfl w.heap.size 37 i0 (.agg #[.int .i64 0, .int .i64 0, .string ByteArray.empty, .string ByteArray.empty]) 4 48 Try.underlying22 hi hz0 hz1 hz2 rfl (by decide) _ _ _ rfl (hrow.alloc _) ⟨wr.heap.size, 0, none⟩ 1 1 [.int .i64 x0, .int .i64 x1, .string ⟨x2.toArray⟩, .string ⟨x3.toArray⟩] rfl rfl ?d1 ?d2 ?d3 ?d4 ?d5 ?_)
          try
            case d1 =>
              intro j u hj
              match j, hj with
              | 0, hj => simp at hj; subst hj; first | (simp [Addr.add]; done) | exact cell_new7 (by simp) rfl
              | 1, hj => simp at hj; subst hj; first | (simp [Addr.add]; done) | exact cell_new7 (by simp) rfl
              | 2, hj => simp at hj; subst hj; first | (simp [Addr.add]; done) | exact cell_new7 (by simp) rfl
              | 3, hj => simp at hj; subst hj; first | (simp [Addr.add]; done) | exact cell_new7 (by simp) rfl
          try
            case d2 => first | exact evV_one (x0, x1, x2, x3) | exact ⟨rfl, rfl, rfl, rfl⟩
          try
            case d3 => unfold maxLen; omega
          try
            case d4 => omega
          try
            case d5 => first | (simp; done) | (simp; omega)
          intro v' w9 own9 g9 _
          have B9 : Below w.heap.size w w9 := (hbw.alloc hbw.size _).grown g9 (by have := hbw.size; simp at this ⊢; omega) (fun j hj => (hrow.lt j hj).1)
          go_wp2_with fail
          refine ⟨?relB, ?meaB⟩
          case relB => exact ⟨k + 1, c + 1, by omega, by omega, by first | go_num | simp, HL', B9, by rw [HR.out]; exact own9⟩
          case meaB => simp [intOf]; omega
      · obtain rfl : k = n := by omega
        have hh : h.take k = h := List.take_of_length_le (by have := HN.out; omega)
        rw [hh] at HL hrow
        have Tk := IsRec.own (L := noReads h) evV_len (by omega) hrow (by omega)
        obtain ⟨gk, ck, hv9, hck⟩ := own_slice9 hrow
        subst hv9
        have Gk : ∀ x ∈ noReads h, goodE x := fun x hx => Gh x (List.mem_filter.1 hx).1
        have HB : Hid (∀ W, Below wr.heap.size wr W → Calls Try.prog 13 #[.slice gk c ck] W fun e w' => BdRow 29 W [] e w') := fun W hb => by
          have := C.all (noReads h) _ W (Tk.below hb) Gk (by rw [HL.out]; omega)
          rw [bads_none h] at this
          exact this
        clear hh Tk Gk hrow HL
        go_wp2_with fail
        refine (HB.out _ (Below.refl _ _)).mono ?_
        rintro e w3 hres3
        obtain ⟨ul, rfl, b3, ol⟩ := hres3
        have B3 := bel_trans hbw b3
        obtain ⟨gl, cl, rfl, hcl⟩ := own_slice9 ol
        clear ol HB
        go_wp2_with fail
        go_loopw [8] (fun i wq => ∃ j : Nat, j ≤ k ∧ i = .int .i64 j ∧ Below w.heap.size w wq) (fun i _ => k - (intOf i).toNat)
        case atStart => exact ⟨0, Nat.zero_le _, rfl, B3⟩
        case round =>
          obtain ⟨j, hj, rfl, hbq⟩ := hrel
          by_cases hlt2 : j < k
          · have hj1 : j < h.length := by have := HN.out; omega
            have HJ1 : Hid (j < h.length) := hj1
            obtain ⟨bb, off, rfl, HQ⟩ := HCh.out (by omega)
            obtain ⟨q0, q1, q2, q3⟩ := HQ.out j hj1 _ hbq
            have DO := fun W hb => HOu.out j W hlt2 hb
            have DA := fun W hb => HAt.out j W hlt2 hb
            have hes := at_still h j
            obtain ⟨⟨x0, x1, x2, x3⟩, hx⟩ : ∃ x, ev h j = x := ⟨_, rfl⟩
            rw [hx] at q0 q1 q2 q3 hes
            simp only at q0 q1 q2 q3 hes
            obtain ⟨o, ho⟩ : ∃ o, outerB h j = o := ⟨_, rfl⟩
            simp only [ho] at DO hes
            clear hx ho hj1
            by_cases d : x0 = 2
            · have e1 : (x0 == 2) = true := by rw [d]; rfl
              clear d
              cases x3 with
              | nil =>
                cases o with
                | false =>
                  clear hes
                  go_wp2_with fail
                  refine (DO _ hbq).mono ?_
                  rintro e w4 ⟨rfl, b4⟩
                  go_wp2_with fail
                  refine ⟨?relA, ?meaA⟩
                  case relA => exact ⟨j + 1, by omega, by first | go_num | simp, bel_trans hbq b4⟩
                  case meaA => simp [intOf]; omega
                | true =>
                  rw [hes rfl rfl] at DA
                  try simp only at DA
                  clear hes
                  go_wp2_with fail
                  refine (DO _ hbq).mono ?_
                  rintro e w4 ⟨rfl, b4⟩
                  have B4 := bel_trans hbq b4
                  go_wp2_with fail
                  refine (DA _ B4).mono ?_
                  rintro e w5 ⟨rfl, b5⟩
                  go_wp2_with fail
                  refine ⟨?relB, ?meaB⟩
                  case relB => exact ⟨j + 1, by omega, by first | go_num | simp, bel_trans B4 b5⟩
                  case meaB => simp [intOf]; omega
              | cons y ys =>
                have e2 : ((y :: ys) == []) = false := rfl
                clear hes
                go_wp2_with fail
                refine ⟨?relC, ?meaC⟩
                case relC => exact ⟨j + 1, by omega, by first | go_num | simp, hbq⟩
                case meaC => simp [intOf]; omega
            · have e1 : (x0 == 2) = false := beq_eq_false_iff_ne.2 d
              clear hes
              go_wp2_with fail
              refine ⟨?relD, ?meaD⟩
              case relD => exact ⟨j + 1, by omega, by first | go_num | simp, hbq⟩
              case meaD => simp [intOf]; omega
          · obtain rfl : j = k := by omega
            go_wp2_with fail
            go_ret
            exact ⟨rfl, hbq⟩
  · rw [decide_eq_false h1] at HF
    obtain ⟨ah, ch, rfl, ih, jh, kh, HCh⟩ := Th.reads
    go_enter Try.func5, Try.ntmps5
    go_wp2_with fail
    refine (HSh.out _ (Below.refl w.heap.size w)).mono ?_
    rintro e w1 ⟨rfl, b1⟩
    have B1 := bel_trans (Below.refl w.heap.size w) b1
    go_wp2_with fail
    refine (HF.out _ B1).mono ?_
    rintro e w2 ⟨rfl, b2⟩
    have B2 := bel_trans B1 b2
    go_wp2_with fail
    go_ret
    exact ⟨rfl, B2⟩
end Go.Proofs.Ytljgflgfcbmgiaa
