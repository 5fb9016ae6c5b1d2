/-
  What chain.links and Links answer, of whatever bodies.
-/
import Derived.Test.YtgickejfcmnaiaaDoorZP4Link
import Derived.Test.YtgickejfcmnaiaaDoorGH
import Derived.Test.YtgickejfcmnaiaaDoorGK
import Derived.OwnWalk
namespace Go.Proofs.YtgickejfcmnaiaaDoor
set_option maxRecDepth 100000
open Go.RowKit
set_option linter.unusedVariables false
attribute [local go_sem] ba_size
theorem lnk_info : (Tryd.prog.info? 48).map (fun i => (i.zero, i.size, i.bytes)) = some (some (.agg #[.string ByteArray.empty, .string ByteArray.empty]), 2, 32) := by kernel_rfl
theorem made_two (z : Value) (n : Nat) : (madeCells #[z, z] n).toList = List.replicate n z := by
  apply List.ext_getElem?
  intro j
  by_cases hj : j < n
  · have h2 : j % 2 = 0 ∨ j % 2 = 1 := by omega
    rcases h2 with h2 | h2 <;> simp [madeCells, hj, h2]
  · simp [madeCells, hj]
theorem set_two (L : List Lk) (m : Nat) (p b : List UInt8) (z : Value) : ((lnkV L ++ List.replicate ((m + 1) * 2) z).set (L.length * 2) (.string ⟨p.toArray⟩)).set (L.length * 2 + 1) (.string ⟨b.toArray⟩) = lnkV (L ++ [(p, b)]) ++ List.replicate (m * 2) z := by
  rw [show (m + 1) * 2 = (m * 2 + 1) + 1 by omega, List.replicate_succ, List.replicate_succ, List.set_append_right _ _ (by rw [lnkV_length]; omega), List.set_append_right _ _ (by rw [lnkV_length]; omega), lnkV_length, lnkV_snoc, show L.length * 2 - L.length * 2 = 0 by omega, show L.length * 2 + 1 - L.length * 2 = 1 by omega]
  simp
theorem zero_at (D : List Lk) (m j : Nat) (z : Value) (h : j < m) : (lnkV D ++ List.replicate m z)[D.length * 2 + j]? = some z := by
  rw [List.getElem?_append_right (by rw [lnkV_length]; omega), lnkV_length, show D.length * 2 + j - D.length * 2 = j by omega, List.getElem?_replicate, if_pos h]
/-- What Links leaves: the row, and the error. -/
def LnRes (w : World) (c : List Lk × Nat) (e : Ending) (w' : World) : Prop := ∃ r, e = .returned (.tuple #[r, .int .i64 (c.2 : Int)]) ∧ Below w.heap.size w w' ∧ w'.ownsRow w.heap.size 48 2 r c.1.length (lnkV c.1)
theorem linksF_drop (sm : List UInt8 → List UInt8) (p : List UInt8) (l : List (List UInt8)) (k : Nat) (h : k < l.length) : linksF sm p (l.drop k) = (p, l[k]) :: linksF sm (sm (cinL p l[k])) (l.drop (k + 1)) := by
  rw [List.drop_eq_getElem_cons h, linksF]
set_option maxHeartbeats 1000000 in
theorem plinksF_any (ss : List (List UInt8)) (v : Value) (w : World) (hG : G w) (hT : IsTxt w v ss) (hlen : ss.length ≤ 8796093022208) :
    Calls Tryd.prog 32 #[sumFn, v] w fun e w' => LnRes w (linksL sumL ss) e w' := by
  obtain ⟨i0', hi', hz0, hz1, hz2⟩ := info_parts lnk_info
  have hg3 := hG.size
  have hbd := hT.bound
  obtain ⟨a, cap, rfl, h1, h2, h3, HC⟩ := hT.some_at
  obtain ⟨n, hn⟩ : ∃ n, ss.length = n := ⟨_, rfl⟩
  have HN : Hid (ss.length = n) := hn
  rw [hn] at h1 h3 hlen ⊢
  obtain ⟨O, hO⟩ : ∃ O, headF sumL [] ss = O := ⟨_, rfl⟩
  obtain ⟨A, hA⟩ : ∃ A, linksF sumL [] ss = A := ⟨_, rfl⟩
  have HR : Hid (linksL sumL ss = if O = none then ([], 4) else (A, 0)) := by
    show linksL sumL ss = _
    unfold linksL
    rw [hA, ← hO]
    cases headF sumL [] ss <;> rfl
  have H0 : Hid (headF sumL [] (ss.drop 0) = O) := hO
  have H1 : Hid ([] ++ linksF sumL [] (ss.drop 0) = A) := hA
  clear hT hn hO hA
  go_enter Tryd.func32, Tryd.ntmps32
  go_wp2_with (at_make; refine wpList_make_full _ rfl _ _ 32 rfl w.heap.size 48 i0' (.agg #[.string ByteArray.empty, .string ByteArray.empty]) 2 Tryd.underlying32 hi' hz0 hz1 .i64 .i64 _ _ n rfl rfl rfl rfl ?c1 ?c2 ?c3 ?_)
  case c1 => rw [hz2]; omega
  case c2 => unfold maxLen; omega
  case c3 => exact Nat.le_refl _
  intro w1 hown1 hgr1
  have hB1 : Below w.heap.size w w1 := (Below.refl _ w).grown hgr1 (Nat.le_refl _) (fun k h => by cases h)
  have hrow1 : w1.ownsRow w.heap.size 48 2 (.slice (some ⟨w.heap.size, 0, none⟩) n n) n (lnkV [] ++ List.replicate (n * 2) (.string ⟨#[]⟩)) := by
    have e := made_two (.string ByteArray.empty) (n * 2)
    have hown1' : w1.ownsRow w.heap.size 48 2 (.slice (some ⟨w.heap.size, 0, none⟩) n n) n (madeCells #[.string ByteArray.empty, .string ByteArray.empty] (n * 2)).toList := hown1
    rw [e] at hown1'
    exact hown1'
  clear hown1 hgr1
  go_wp2_with fail
  refine (plinkBy_any w1).mono ?_
  rintro e w2 ⟨rfl, bS2, bx2, hb2⟩
  have hB2 : Below w.heap.size w w2 := hB1.trans (hb2.mono hB1.size)
  have hrow2 := owns_below hrow1 hb2
  have hlt1 : w.heap.size < w1.heap.size := (hrow1.lt w.heap.size rfl).2
  clear hrow1 hb2 hB1
  obtain ⟨bS, hbS⟩ : ∃ bS, w1.heap.size = bS := ⟨_, rfl⟩
  rw [hbS] at bS2 bx2 hlt1 ⊢
  clear hbS
  go_wp2_with fail
  go_loopw [17] (fun i wr => ∃ (k : Nat) (p : List UInt8) (D : List Lk), D.length = k ∧ k ≤ n ∧ p.length ≤ 32 ∧ i = .int .i64 k ∧ Hid (headF sumL p (ss.drop k) = O) ∧ Hid (D ++ linksF sumL p (ss.drop k) = A) ∧ Below w.heap.size w wr ∧ Boxed wr bS 50 sumFn ∧ Boxed wr (bS + 1) 9 (.string ⟨p.toArray⟩) ∧ wr.ownsRow w.heap.size 48 2 (.slice (some ⟨w.heap.size, 0, none⟩) n n) n (lnkV D ++ List.replicate ((n - k) * 2) (.string ⟨#[]⟩))) (fun i _ => n - (intOf i).toNat)
  case atStart => exact ⟨0, [], [], rfl, Nat.zero_le _, by simp, rfl, H0, H1, hB2, bS2, bx2, hrow2⟩
  case round =>
    obtain ⟨k, p, D, hDk, hk, hp, rfl, HJ, HL, hbw, hbS, hbx, hrow⟩ := hrel
    by_cases hlt : k < n
    · have hk1 : k < ss.length := by have := HN.out; omega
      obtain ⟨bb, off, rfl, hblt, hcell⟩ := HC.out k hk1
      have c0 : wr.cell? ⟨bb, off + k, none⟩ = some (.string ⟨ss[k].toArray⟩) := (hbw.cell (p := ⟨bb, off + k, none⟩) hblt).trans hcell
      have hJ := HJ.out
      rw [headF_drop sumL p ss k hk1] at hJ
      have hL := HL.out
      rw [linksF_drop sumL p ss k hk1] at hL
      have hsb := hbd _ (List.getElem_mem hk1)
      obtain ⟨b, hb⟩ : ∃ b, ss[k] = b := ⟨_, rfl⟩
      rw [hb] at c0 hJ hsb hL
      have hGr := hG.below hbw hg3
      clear hb hcell HJ HL
      by_cases hbig : bigB p b
      · rw [if_pos hbig] at hJ
        subst hJ
        have HE : Hid (linksL sumL ss = ([], 4)) := by have := HR.out; rw [if_pos rfl] at this; exact this
        have hC := plink_big wr hGr bS (bS + 1) p b (by omega) (by omega) hbS hbx hbig
        go_wp2_with fail
        refine hC.mono ?_
        rintro e w3 ⟨rfl, hb3⟩
        have hrow3 := owns_below hrow hb3
        have z0 := zero_at D ((n - k) * 2) 0 (.string ⟨#[]⟩) (by omega)
        have z1 := zero_at D ((n - k) * 2) 1 (.string ⟨#[]⟩) (by omega)
        rw [hDk] at z0 z1
        have f0 : w3.cell? ⟨w.heap.size, k * 2, none⟩ = some (.string ⟨#[]⟩) := (hrow3.cellAt (k * 2) (by omega)).trans z0
        have f1 : w3.cell? ⟨w.heap.size, k * 2 + 1, none⟩ = some (.string ⟨#[]⟩) := (hrow3.cellAt (k * 2 + 1) (by omega)).trans z1
        clear z0 z1
        have f2 := hrow3.frozenAt (k * 2)
        have f3 := hrow3.frozenAt (k * 2 + 1)
        have hB3 : Below w.heap.size w w3 := hbw.trans (hb3.mono hbw.size)
        clear hrow hrow3 hrow2 hL
        go_wp2_with fail
        go_ret2
        refine ⟨_, by rw [HE.out]; rfl, (hB3.setCell (Nat.le_refl _) _).setCell (Nat.le_refl _) _, ?_⟩
        rw [HE.out]
        exact World.ownsRow_nil _ _ _ _
      · rw [if_neg hbig] at hJ
        have hC := plink_ok wr hGr bS (bS + 1) p b hbS hbx hbig
        have l32 := sumL_32 (cinL p b)
        obtain ⟨q, hq⟩ : ∃ q, sumL (cinL p b) = q := ⟨_, rfl⟩
        rw [hq] at hC hJ hL l32
        have HJ' : Hid (headF sumL q (ss.drop (k + 1)) = O) := hJ
        have HL' : Hid ((D ++ [(p, b)]) ++ linksF sumL q (ss.drop (k + 1)) = A) := by
          show _ = A
          rw [List.append_assoc]; exact hL
        have hq32 : q.length ≤ 32 := by omega
        clear hJ hL hq l32 hbig
        go_wp2_with fail
        refine hC.mono ?_
        rintro e w3 ⟨rfl, hg3', hbx3⟩
        have hrow3 := hrow.kept hg3' (.inr (by simp [Value.ownBlock]; omega))
        have hbS3 := hbS.kept hg3' (by simp)
        have z0 := zero_at D ((n - k) * 2) 0 (.string ⟨#[]⟩) (by omega)
        have z1 := zero_at D ((n - k) * 2) 1 (.string ⟨#[]⟩) (by omega)
        rw [hDk] at z0 z1
        have f0 : w3.cell? ⟨w.heap.size, k * 2, none⟩ = some (.string ⟨#[]⟩) := (hrow3.cellAt (k * 2) (by omega)).trans z0
        have f1 : w3.cell? ⟨w.heap.size, k * 2 + 1, none⟩ = some (.string ⟨#[]⟩) := (hrow3.cellAt (k * 2 + 1) (by omega)).trans z1
        clear z0 z1
        have f2 := hrow3.frozenAt (k * 2)
        have f3 := hrow3.frozenAt (k * 2 + 1)
        have hB3 : Below w.heap.size w w3 := hbw.grown hg3' hbw.size (fun k h => by cases h; omega)
        have hs4 := (hrow3.stored (k * 2) (.string ⟨p.toArray⟩)).1
        have hs5 := (hs4.stored (k * 2 + 1) (.string ⟨b.toArray⟩)).1
        have hrow5 : ((w3.setCell ⟨w.heap.size, k * 2, none⟩ (.string ⟨p.toArray⟩)).setCell ⟨w.heap.size, k * 2 + 1, none⟩ (.string ⟨b.toArray⟩)).ownsRow w.heap.size 48 2 (.slice (some ⟨w.heap.size, 0, none⟩) n n) n (lnkV (D ++ [(p, b)]) ++ List.replicate ((n - (k + 1)) * 2) (.string ⟨#[]⟩)) := by
          have e := set_two D (n - (k + 1)) p b (.string ⟨#[]⟩)
          rw [show n - (k + 1) + 1 = n - k by omega, hDk] at e
          rw [← e]
          exact hs5
        have hbS5 := (hbS3.other (B' := w.heap.size) (by omega) (.string ⟨p.toArray⟩))
        clear hrow hrow3 hrow2 hs4 hs5
        go_wp2_with fail
        go_roundw
        case rel => exact ⟨k + 1, q, D ++ [(p, b)], by simp [hDk], by omega, hq32, by first | go_num | simp, HJ', HL', (hB3.setCell (Nat.le_refl _) _).setCell (Nat.le_refl _) _, (heap_setCell_other _ _ _ _ (by show bS ≠ w.heap.size; omega)).trans ((heap_setCell_other _ _ _ _ (by show bS ≠ w.heap.size; omega)).trans hbS3), (heap_setCell_other _ _ _ _ (by show bS + 1 ≠ w.heap.size; omega)).trans ((heap_setCell_other _ _ _ _ (by show bS + 1 ≠ w.heap.size; omega)).trans hbx3), hrow5⟩
        case measure => simp [intOf]; omega
    · have HE : Hid (linksL sumL ss = (D, 0)) := by
        have h := HJ.out
        have g := HL.out
        rw [List.drop_eq_nil_of_le (by have := HN.out; omega), headF] at h
        rw [List.drop_eq_nil_of_le (by have := HN.out; omega), linksF, List.append_nil] at g
        show linksL sumL ss = _
        rw [HR.out, ← h, if_neg (by simp), g]
      have hkn : k = n := by omega
      clear HJ HR HL
      go_wp2_with fail
      go_ret2
      refine ⟨_, by rw [HE.out]; rfl, hbw, ?_⟩
      rw [HE.out]
      have e : (n - k) * 2 = 0 := by omega
      rw [e, List.replicate_zero, List.append_nil] at hrow
      have e2 : D.length = n := by omega
      show World.ownsRow _ _ _ _ _ D.length _
      rw [e2]
      exact hrow
set_option maxHeartbeats 400000 in
theorem plinks_any (ss : List (List UInt8)) (v : Value) (w : World) (hG : G w) (hT : IsTxt w v ss) (hlen : ss.length ≤ 8796093022208) :
    Calls Tryd.prog 19 #[v] w fun e w' => LnRes w (linksL sumL ss) e w' := by
  have h := plinksF_any ss v w hG hT hlen
  obtain ⟨R, hR⟩ : ∃ R, linksL sumL ss = R := ⟨_, rfl⟩
  rw [hR] at h ⊢
  clear hR hT
  go_enter Tryd.func19, Tryd.ntmps19
  go_wp2_with fail
  refine h.mono ?_
  rintro e w1 hres
  obtain ⟨r, rfl, hb1, hown⟩ := hres
  go_wp2_with fail
  go_ret2
  exact ⟨r, rfl, hb1, hown⟩
end Go.Proofs.YtgickejfcmnaiaaDoor
