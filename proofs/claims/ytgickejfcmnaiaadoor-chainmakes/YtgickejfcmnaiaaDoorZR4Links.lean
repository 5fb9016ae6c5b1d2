/-
  What cartoucheref04.Links answers, of few bodies.
-/
import Derived.Test.YtgickejfcmnaiaaDoorZR4Head
import Derived.Test.YtgickejfcmnaiaaDoorZP4Links
namespace Go.Proofs.YtgickejfcmnaiaaDoor
set_option maxRecDepth 100000
open Go.RowKit
set_option linter.unusedVariables false
attribute [local go_sem] ba_size
set_option maxHeartbeats 1000000 in
theorem rlinks_any (ss : List (List UInt8)) (v : Value) (w : World) (hT : IsTxt w v ss) (hlen : ss.length ≤ 1000000) :
    Calls Tryd.prog 20 #[v] w fun e w' => LnRes w (linksL sumL ss) e w' := by
  obtain ⟨i0', hi', hz0, hz1, hz2⟩ := info_parts lnk_info
  have hbd := hT.bound
  have hH := rhead_any ss v w hT
  rw [headL_R] at hH
  obtain ⟨a, cap, rfl, h1, h2, h3, HC⟩ := hT.some_at
  obtain ⟨n, hn⟩ : ∃ n, ss.length = n := ⟨_, rfl⟩
  have HN : Hid (ss.length = n) := hn
  rw [hn] at h1 h3 hlen hH ⊢
  obtain ⟨O, hO⟩ : ∃ O, headF sumL [] ss = O := ⟨_, rfl⟩
  obtain ⟨A, hA⟩ : ∃ A, linksF sumL [] ss = A := ⟨_, rfl⟩
  have HR : Hid (linksL sumL ss = if O = none then ([], 4) else (A, 0)) := by
    show linksL sumL ss = _
    unfold linksL
    rw [hA, ← hO]
    cases headF sumL [] ss <;> rfl
  have H0 : Hid (headF sumL [] (ss.drop 0) = O) := hO
  have H1 : Hid ([] ++ linksF sumL [] (ss.drop 0) = A) := hA
  rw [hO] at hH
  clear hT hn hO hA
  cases O with
  | none =>
    have HE : Hid (linksL sumL ss = ([], 4)) := by have := HR.out; rw [if_pos rfl] at this; exact this
    clear HR
    change Calls _ _ _ _ fun e w' => e = .returned (.tuple #[.string ⟨#[]⟩, .int .i64 4]) ∧ Below w.heap.size w w' at hH
    go_enter Tryd.func20, Tryd.ntmps20
    go_wp2_with fail
    refine hH.mono ?_
    rintro e w1 ⟨rfl, hb1⟩
    go_wp2_with fail
    go_ret2
    refine ⟨_, by rw [HE.out]; rfl, hb1, ?_⟩
    rw [HE.out]
    exact World.ownsRow_nil _ _ _ _
  | some hd =>
    change Calls _ _ _ _ fun e w' => e = .returned (.tuple #[.string ⟨hd.toArray⟩, .int .i64 0]) ∧ Below w.heap.size w w' at hH
    go_enter Tryd.func20, Tryd.ntmps20
    go_wp2_with fail
    refine hH.mono ?_
    rintro e w1 ⟨rfl, hb1⟩
    go_wp2_with fail
    go_loopw [6, 7, 8] (fun r pv i wr => ∃ (k : Nat) (p : List UInt8) (D : List Lk), Hid (D.length = k) ∧ k ≤ n ∧ p.length ≤ 32 ∧ pv = .string ⟨p.toArray⟩ ∧ i = .int .i64 k ∧ Hid (headF sumL p (ss.drop k) = some hd) ∧ Hid (D ++ linksF sumL p (ss.drop k) = A) ∧ Below w.heap.size w wr ∧ wr.ownsRow w.heap.size 48 2 r k (lnkV D)) (fun _ _ i _ => n - (intOf i).toNat)
    case atStart => exact ⟨0, [], [], rfl, Nat.zero_le _, by simp, rfl, rfl, H0, H1, hb1, World.ownsRow_nil _ _ _ _⟩
    case round =>
      obtain ⟨k, p, D, hDk, hk, hp, rfl, rfl, HJ, HL, hbw, hrow⟩ := hrel
      by_cases hlt : k < n
      · have hk1 : k < ss.length := by have := HN.out; omega
        obtain ⟨bb, off, rfl, hblt, hcell⟩ := HC.out k hk1
        have c0 : wr.cell? ⟨bb, off + k, none⟩ = some (.string ⟨ss[k].toArray⟩) := (hbw.cell (p := ⟨bb, off + k, none⟩) hblt).trans hcell
        have hJ := HJ.out
        rw [headF_drop sumL p ss k hk1] at hJ
        have hL := HL.out
        rw [linksF_drop sumL p ss k hk1] at hL
        have hsb := hbd _ (List.getElem_mem hk1)
        obtain ⟨b, hb⟩ : ∃ b, ss[k] = b := ⟨_, rfl⟩
        rw [hb] at c0 hJ hsb hL
        clear hb hcell HJ HL
        have hbig : ¬ bigB p b := fun h => by rw [if_pos h] at hJ; cases hJ
        rw [if_neg hbig] at hJ
        have hNx := fun w1 => rnext_any p b (by omega) (by omega) w1
        rw [nextL_is sumL p b hbig] at hNx
        have l32 := sumL_32 (cinL p b)
        obtain ⟨q, hq⟩ : ∃ q, sumL (cinL p b) = q := ⟨_, rfl⟩
        rw [hq] at hNx hJ hL l32
        have HJ' : Hid (headF sumL q (ss.drop (k + 1)) = some hd) := hJ
        have HL' : Hid ((D ++ [(p, b)]) ++ linksF sumL q (ss.drop (k + 1)) = A) := by
          show _ = A
          rw [List.append_assoc]; exact hL
        have HD' : Hid ((D ++ [(p, b)]).length = k + 1) := by show _ = _; rw [List.length_append, hDk.out]; rfl
        have HV : Hid (lnkV (D ++ [(p, b)]) = lnkV D ++ [.string ⟨p.toArray⟩, .string ⟨b.toArray⟩]) := lnkV_snoc D (p, b)
        have hq32 : q.length ≤ 32 := by omega
        clear hJ hL hq l32 hbig
        go_wp2_with (at_builtin; refine wpList_append_own _ rfl _ _ 32 rfl w.heap.size 48 i0' (.agg #[.string ByteArray.empty, .string ByteArray.empty]) 2 32 Tryd.underlying32 hi' hz0 hz1 hz2 rfl (by decide) _ _ _ rfl (hrow.alloc _) ⟨wr.heap.size, 0, none⟩ 1 1 [.string ⟨p.toArray⟩, .string ⟨b.toArray⟩] rfl rfl ?d1 ?d2 ?d3 ?d4 ?d5 ?_)
        case d2 => exact ⟨rfl, rfl⟩
        case d3 => unfold maxLen; omega
        case d4 => omega
        case d5 => have := hbw.size; simp; omega
        intro v' W5 hown5 hgrow5 _
        have hB5 : Below w.heap.size w W5 := (hbw.alloc hbw.size _).grown hgrow5 (by have := hbw.size; simp; omega) (fun j hj => (hrow.lt j hj).1)
        have c5 : W5.cell? ⟨bb, off + k, none⟩ = some (.string ⟨b.toArray⟩) := by
          rw [hB5.cell (p := ⟨bb, off + k, none⟩) hblt, ← hbw.cell (p := ⟨bb, off + k, none⟩) hblt]; exact c0
        clear hgrow5
        go_wp2_with fail
        refine (hNx W5).mono ?_
        rintro e w6 ⟨rfl, hb6⟩
        have hown6 := owns_below hown5 hb6
        have hB6 : Below w.heap.size w w6 := hB5.trans (hb6.mono hB5.size)
        go_wp2_with fail
        go_roundw
        case rel => exact ⟨k + 1, q, D ++ [(p, b)], HD', by omega, hq32, rfl, by first | go_num | simp, HJ', HL', hB6, by rw [HV.out]; exact hown6⟩
        case measure => simp [intOf]; omega
      · have HE : Hid (linksL sumL ss = (D, 0)) := by
          have h := HJ.out
          have g := HL.out
          rw [List.drop_eq_nil_of_le (by have := HN.out; omega), linksF, List.append_nil] at g
          show linksL sumL ss = _
          rw [HR.out, if_neg (by simp), g]
        have HK : Hid (D.length = n) := by show _ = _; rw [hDk.out]; omega
        have hkn : k = n := by omega
        subst hkn
        clear HJ HR HL
        go_wp2_with fail
        go_ret2
        refine ⟨_, by rw [HE.out]; rfl, hbw, ?_⟩
        rw [HE.out]
        show World.ownsRow _ _ _ _ _ D.length _
        rw [HK.out]
        exact hrow
end Go.Proofs.YtgickejfcmnaiaaDoor
