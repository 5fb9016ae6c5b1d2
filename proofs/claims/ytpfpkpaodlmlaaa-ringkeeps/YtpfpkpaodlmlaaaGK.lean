/-
  What (ring.web).walk answers.
  What (ring.web).walk answers: its loop.
  What (ring.web).strip does.
-/
import Derived.Test.YtpfpkpaodlmlaaaGJ
import Derived.Test.YtpfpkpaodlmlaaaGF
import Derived.Test.YtpfpkpaodlmlaaaGD
import Derived.Test.YtpfpkpaodlmlaaaGI
import Derived.Test.YtpfpkpaodlmlaaaGH
import Derived.Test.YtpfpkpaodlmlaaaZP11Wv
import Derived.Deep.LoopGhost
namespace Go.Proofs.Ytpfpkpaodlmlaaa
set_option maxRecDepth 100000
open Go.RowKit Go.Maps
set_option linter.unusedVariables false
attribute [local go_sem] ba_size
/-- The first step that comes nearer. -/
theorem path_first (l : List Stp) (N : List Int) (hE : ∀ s ∈ l, inN N s.1 = true ∧ inN N s.2.1 = true) (start : Int) (many : Nat) (away : Int → Option Nat) (hA : AwOk l start many away) (j rest : Nat) (at_ : Int) (hj : Walk l j start at_) (hjr : j + 1 + rest = many) (hr : Walk l (rest + 1) at_ start) :
    ∃ nx, ∃ hn : nx < (frL l (inN N) at_).length, fi (fun q => decide (away (stA l ((frL l (inN N) at_).getD q 0)).2.1 = some rest)) (frL l (inN N) at_).length = some nx ∧ (stA l (frL l (inN N) at_)[nx]).1 = at_ ∧ Walk l rest (stA l (frL l (inN N) at_)[nx]).2.1 start ∧ ringPath l start (rest + 1) at_ = stA l (frL l (inN N) at_)[nx] :: ringPath l start rest (stA l (frL l (inN N) at_)[nx]).2.1 := by
  obtain ⟨F, hF⟩ : ∃ F, frL l (inN N) at_ = F := ⟨_, rfl⟩
  have hmem : ∀ i, i ∈ F ↔ i < l.length ∧ (stA l i).1 = at_ := fun i => by
    rw [← hF, fr_mem]
    constructor
    · rintro ⟨a, b, _⟩; exact ⟨a, b⟩
    · rintro ⟨a, b⟩
      have := hE _ (stA_mem l i a)
      exact ⟨a, b, by rw [← b]; exact this.1, this.2⟩
  have hsort : F.Pairwise (· < ·) := by rw [← hF]; exact List.Pairwise.filter _ List.pairwise_lt_range
  have hiff : ∀ i ∈ F, (away (stA l i).2.1 = some rest ↔ Walk l rest (stA l i).2.1 start) := fun i hi => by
    obtain ⟨h1, h2⟩ := (hmem i).1 hi
    exact hA j rest (stA l i) (stA_mem l i h1) (by rw [h2]; exact hj) hjr
  rw [hF]
  have hg : ∀ q (hq : q < F.length), F.getD q 0 = F[q] := fun q hq => by simp [hq]
  cases hfi : fi (fun q => decide (away (stA l (F.getD q 0)).2.1 = some rest)) F.length with
  | none =>
    exfalso
    obtain ⟨s, hs, hw, e⟩ := hr
    obtain ⟨i, hi, rfl⟩ := List.getElem_of_mem hs
    have hiF : i ∈ F := (hmem i).2 ⟨hi, by rw [stA_at l i hi]; exact e.symm⟩
    obtain ⟨q, hq, e2⟩ := List.getElem_of_mem hiF
    have := (fi_none _ _).1 hfi q hq
    rw [hg q hq, e2, decide_eq_false_iff_not] at this
    exact this ((hiff i hiF).2 (by rw [stA_at l i hi]; exact hw))
  | some nx =>
    obtain ⟨n1, n2, n3⟩ := (fi_some _ _ _).1 hfi
    rw [hg nx n1, decide_eq_true_eq] at n2
    have hiF : F[nx] ∈ F := List.getElem_mem n1
    obtain ⟨m1, m2⟩ := (hmem _).1 hiF
    have hw := (hiff _ hiF).1 n2
    refine ⟨nx, n1, rfl, m2, hw, ?_⟩
    have := path_next l start rest at_ F[nx] m1 (by rw [← stA_at l _ m1]; exact m2) (by rw [way_iff, ← stA_at l _ m1]; exact hw) (fun q hq hlt hh => ?_)
    · rw [stA_at l _ m1]; exact this
    · have hqF : q ∈ F := (hmem q).2 ⟨hq, by rw [stA_at l q hq]; exact hh.1⟩
      obtain ⟨q', hq', e⟩ := List.getElem_of_mem hqF
      have hq2 : q' < nx := by
        rcases Nat.lt_or_ge q' nx with h | h
        · exact h
        · exfalso
          rcases Nat.lt_or_ge nx q' with h' | h'
          · have := (List.pairwise_iff_getElem.1 hsort) nx q' n1 hq' h'
            omega
          · have e3 : q' = nx := by omega
            subst e3
            omega
      have := n3 q' hq2
      rw [hg q' hq', e, decide_eq_false_iff_not] at this
      exact this ((hiff q hqF).2 (by rw [stA_at l q hq]; exact (way_iff l start rest _).1 hh.2))
abbrev nearF (ba bw br : Nat) : Value := .func (.func 51) #[] #[.pointer (some ⟨ba, 0, none⟩), .pointer (some ⟨bw, 0, none⟩), .pointer (some ⟨br, 0, none⟩)]
set_option maxHeartbeats 4000000 in
theorem pnear11_any (V : World) (l : List Stp) (vn : Value) (vl : Value) (m1 m2 m3 ma n ba bw br : Nat) (Q : List (Int × Nat)) (rest pl : Nat) (hT : IsSts V vl l) (hpl : pl < l.length) (okl : ∀ x ∈ l, goodSt x) (hA : Boxed V ba tMM (.map (some ma))) (hM : VMap V ma n (awV Q)) (hW : SBox V bw tW (webC vl vn m1 m2 m3)) (hR : Boxed V br 3 (.int .i64 (rest : Int))) :
    Calls Try.prog 51 #[.int .i64 (pl : Int), .pointer (some ⟨ba, 0, none⟩), .pointer (some ⟨bw, 0, none⟩), .pointer (some ⟨br, 0, none⟩)] V fun e V' => e = .returned (.bool (decide (aw Q (stA l pl).2.1 = some rest))) ∧ Below V.heap.size V V' := by
  obtain ⟨al, cl, rfl, p1, p2, p3, HL⟩ := sts_at hT
  obtain ⟨bL, oL, rfl, _, cell1⟩ := HL.out pl hpl
  have hIy : I64 (stA l pl).2.1 := (okl _ (stA_mem l pl hpl)).2.1
  obtain ⟨y, hy⟩ : ∃ y, (stA l pl).2.1 = y := ⟨_, rfl⟩
  rw [hy] at cell1 hIy ⊢
  have a0 := hA.cell
  have w0 := hW.cell 0 _ rfl
  have r0 := hR.cell
  obtain ⟨nl, hnl⟩ : ∃ nl, l.length = nl := ⟨_, rfl⟩
  rw [hnl] at hpl w0
  have jp : (pl : Int) < (nl : Int) := by omega
  have qq := fun (v : Value) (hv : (awV Q y).getD (.int .i64 0) = v) (is : Bool) (his : (awV Q y).isSome = is) (k : Nat) => vlook_ok_run (W := V.drewN k) (VMap.same hM (by rfl)) Try.underlying56 (zeroI _) y hIy v hv is his
  cases hq : aw Q y with
  | none =>
    have q1 := qq (.int .i64 0) (by unfold awV; rw [hq]; rfl) false (by unfold awV; rw [hq]; rfl)
    clear hy hA hM hW hR hq qq hnl HL hT
    go_enter Try.func51, Try.ntmps51
    go_wp2_with fail
    go_quiet (fail)
    go_wp2_with fail
    go_ret
    exact ⟨rfl, below_drewN (Below.refl _ _) nq⟩
  | some d =>
    have q1 := qq (.int .i64 (d : Int)) (by unfold awV; rw [hq]; rfl) true (by unfold awV; rw [hq]; rfl)
    by_cases hd : d = rest
    · subst hd
      rw [decide_eq_true rfl]
      clear hy hA hM hW hR hq qq hnl HL hT
      go_enter Try.func51, Try.ntmps51
      go_wp2_with fail
      go_quiet (fail)
      go_wp2_with fail
      go_ret
      exact ⟨rfl, below_drewN (Below.refl _ _) nq⟩
    · rw [decide_eq_false (by intro h; exact hd (Option.some.inj h))]
      have e1 : ((d : Int) == (rest : Int)) = false := by simp; omega
      clear hy hA hM hW hR hq qq hnl HL hT
      go_enter Try.func51, Try.ntmps51
      go_wp2_with fail
      go_quiet (fail)
      go_wp2_with fail
      go_ret
      exact ⟨rfl, below_drewN (Below.refl _ _) nq⟩
set_option maxHeartbeats 2000000 in
theorem pidxW_any (V : World) (l : List Stp) (vn vl vF : Value) (F : List Nat) (m1 m2 m3 ma n ba bw br : Nat) (Q : List (Int × Nat)) (rest : Nat) (hT : IsSts V vl l) (hF : IsInts V vF (F.map Int.ofNat)) (hFl : ∀ i ∈ F, i < l.length) (okl : ∀ x ∈ l, goodSt x) (hA : Boxed V ba tMM (.map (some ma))) (hM : VMap V ma n (awV Q)) (hW : SBox V bw tW (webC vl vn m1 m2 m3)) (hR : Boxed V br 3 (.int .i64 (rest : Int))) :
    Calls Try.prog 50 #[vF, nearF ba bw br] V fun e V' => e = .returned (.int .i64 (oI (fi (fun q => decide (aw Q (stA l (F.getD q 0)).2.1 = some rest)) F.length))) ∧ Below V.heap.size V V' := by
  have C := fun (pl : Nat) (hp : pl < l.length) W (hW' : Below V.heap.size V W) => pnear11_any W l vn vl m1 m2 m3 ma n ba bw br Q rest pl (hT.below hW') hp okl (boxed_below7 hA hW') (hM.bel hW' hM.lt) (hW.below hW') (boxed_below7 hR hW')
  have HFr : Hid (∀ W, Below V.heap.size V W → IsInts W vF (F.map Int.ofNat)) := fun W hW' => hF.below hW'
  obtain ⟨a, cap, rfl, h1, h2, h3, _⟩ := ints_at hF
  obtain ⟨P, hP⟩ : ∃ P : Nat → Bool, P = fun q => decide (aw Q (stA l (F.getD q 0)).2.1 = some rest) := ⟨_, rfl⟩
  rw [← hP]
  have HP := Lib.hid hP
  have HC := Lib.hid C
  have HFl := Lib.hid hFl
  obtain ⟨nF, hnF⟩ : ∃ nF, F.length = nF := ⟨_, rfl⟩
  have HNF := Lib.hid hnF
  rw [hnF] at h1 h3
  rw [hnF]
  clear C hT hF hFl hA hM hW hR hP hnF
  go_enter Try.func50, Try.ntmps50
  go_wp2_with fail
  go_loopw [8] (fun i wr => ∃ k : Nat, k ≤ nF ∧ i = .int .i64 k ∧ Hid (∀ j, j < k → P j = false) ∧ Below V.heap.size V wr) (fun i _ => nF - (intOf i).toNat)
  case atStart => exact ⟨0, Nat.zero_le _, rfl, fun j hj => absurd hj (by omega), Below.refl _ _⟩
  case round =>
    obtain ⟨k, hk, rfl, HF0, hB⟩ := hrel
    by_cases hlt : k < nF
    · have j0 : (k : Int) < (nF : Int) := by omega
      have hkF : k < F.length := by have := HNF.out; omega
      obtain ⟨a', cap', ef, _, _, _, HQ⟩ := ints_at (HFr.out wr hB)
      obtain ⟨bb, off, ea, cell⟩ := HQ.out k hkF
      obtain ⟨rfl, rfl⟩ : a = a' ∧ cap = cap' := by
        have hh := HNF.out
        simpa [hh] using ef
      subst ea
      have D := HC.out F[k] (HFl.out _ (List.getElem_mem hkF)) wr hB
      have HI : Hid (P k = decide (aw Q (stA l F[k]).2.1 = some rest)) := by show _ = _; rw [HP.out]; simp [hkF]
      obtain ⟨bl, hbl⟩ : ∃ bl, decide (aw Q (stA l F[k]).2.1 = some rest) = bl := ⟨_, rfl⟩
      rw [hbl] at D HI
      obtain ⟨pl, hpl⟩ : ∃ pl, F[k] = pl := ⟨_, rfl⟩
      rw [hpl] at D cell
      clear hbl hpl ef
      cases bl with
      | true =>
        go_wp2_with fail
        refine D.mono ?_
        rintro e1 w1 ⟨rfl, b1⟩
        have HE : Hid (fi P nF = some k) := (fi_some _ _ _).2 ⟨hlt, HI.out, HF0.out⟩
        go_wp2_with fail
        go_ret
        refine ⟨?_, bel_trans hB b1⟩
        rw [HE.out]
        rfl
      | false =>
        go_wp2_with fail
        refine D.mono ?_
        rintro e1 w1 ⟨rfl, b1⟩
        go_wp2_with fail
        refine ⟨⟨k + 1, by omega, by first | go_num | simp, ?_, bel_trans hB b1⟩, by simp [intOf]; omega⟩
        intro j hj
        rcases Nat.lt_succ_iff_lt_or_eq.1 hj with h' | rfl
        · exact HF0.out j h'
        · exact HI.out
    · obtain rfl : nF = k := by omega
      have jq : ¬ (nF : Int) < (nF : Int) := by omega
      have HE : Hid (fi P nF = none) := (fi_none _ _).2 HF0.out
      go_wp2_with fail
      go_ret
      refine ⟨?_, hB⟩
      rw [HE.out]
      rfl
end Go.Proofs.Ytpfpkpaodlmlaaa
namespace Go.Proofs.Ytpfpkpaodlmlaaa
set_option maxRecDepth 100000
open Go.RowKit Go.Maps
set_option linter.unusedVariables false
attribute [local go_sem] ba_size
theorem path_firstF (l : List Stp) (N : List Int) (hE : ∀ s ∈ l, inN N s.1 = true ∧ inN N s.2.1 = true) (start : Int) (many : Nat) (away : Int → Option Nat) (hA : AwOk l start many away) (j rest : Nat) (at_ : Int) (hj : Walk l j start at_) (hjr : j + 1 + rest = many) (hr : Walk l (rest + 1) at_ start) (F : List Nat) (hF : frL l (inN N) at_ = F) :
    ∃ nx, ∃ hn : nx < F.length, fi (fun q => decide (away (stA l (F.getD q 0)).2.1 = some rest)) F.length = some nx ∧ (stA l F[nx]).1 = at_ ∧ Walk l rest (stA l F[nx]).2.1 start ∧ ringPath l start (rest + 1) at_ = stA l F[nx] :: ringPath l start rest (stA l F[nx]).2.1 := by
  subst hF
  exact path_first l N hE start many away hA j rest at_ hj hjr hr
/-- Steps that go back to where they began: their places, in a row. -/
def WkRes (V : World) (l : List Stp) (start : Int) (many : Nat) (e : Ending) (V' : World) : Prop :=
  ∃ (v : Value) (ps : List Nat), e = .returned v ∧ Below V.heap.size V V' ∧ V'.ownsRow V.heap.size 3 1 v ps.length (plV ps) ∧ ps.length = many ∧ (∀ p ∈ ps, p < l.length) ∧ ps.map (stA l) = ringPath l start many start
structure WkS (V W : World) (b0 ma n : Nat) (cs : Array Value) (Q : List (Int × Nat)) (br : Nat) (rv : Int) (pv : Value) (ps : List Nat) : Prop where
  bl : Below V.heap.size V W
  s0 : V.heap.size = b0
  bx : SBox W b0 tW cs
  ab : Boxed W (b0 + 1) tMM (.map (some ma))
  rb : Boxed W br 3 (.int .i64 rv)
  row : W.ownsRow V.heap.size 3 1 pv ps.length (plV ps)
  ap : pv.ownBlock ≠ some br
  rlo : b0 ≤ br
theorem WkS.bel {V W W' : World} {b0 ma n : Nat} {cs : Array Value} {Q : List (Int × Nat)} {br : Nat} {rv : Int} {pv : Value} {ps : List Nat} (h : WkS V W b0 ma n cs Q br rv pv ps) (hb : Below W.heap.size W W') : WkS V W' b0 ma n cs Q br rv pv ps :=
  ⟨bel_trans h.bl hb, h.s0, h.bx.below hb, boxed_below7 h.ab hb, boxed_below7 h.rb hb, h.row.kept (grown_below8 none hb) (by cases pv.ownBlock <;> simp), h.ap, h.rlo⟩
set_option maxHeartbeats 8000000 in
theorem pwalk11_any (Wc V : World) (l : List Stp) (N : List Int) (vl vn : Value) (m1 m2 m3 : Nat) (hw : Web Wc l N vl vn m1 m2 m3) (hg : Wc.grownBy V (some m1)) (hE : ∀ s ∈ l, inN N s.1 = true ∧ inN N s.2.1 = true) (start : Int) (hIs : I64 start) (many : Nat) (hmany : many ≤ 17592186043904) (ma n : Nat) (Q : List (Int × Nat)) (hM : VMap V ma n (awV Q)) (hA : AwOk l start many (aw Q)) (hWk : Walk l many start start) :
    Calls Try.prog 36 #[webV vl vn m1 m2 m3, .int .i64 start, .int .i64 (many : Int), .map (some ma)] V fun e V' => WkRes V l start many e V' := by
  obtain ⟨i0, hi, hz0, hz1, hz2⟩ := info_parts int_info
  have HW := Lib.hid hw
  have Hg := Lib.hid hg
  have HE := Lib.hid hE
  have HA := Lib.hid hA
  have HWk := Lib.hid hWk
  have HMv : Hid (∀ W, Below V.heap.size V W → VMap W ma n (awV Q)) := fun W hW => hM.bel hW hM.lt
  obtain ⟨al, cl, hvl, _⟩ := sts_at hw.sts
  obtain ⟨an, cn, hvn, _⟩ := hw.nums.some_at
  have HF1 : Hid (∃ ff, (∀ W, Below V.heap.size V W → VMap W m2 17592186044416 ff) ∧ ∀ x W, Below V.heap.size V W → IsInts W ((ff x).getD nilS) ((frL l (inN N) x).map Int.ofNat)) := by
    obtain ⟨ff, h1, h2⟩ := GMap.turned hw.isM hg hw.ne2 hw.fr
    exact ⟨ff, fun W hW => h1.bel hW h1.lt, fun x W hW => (h2 x).below hW⟩
  have HSt : Hid (∀ W, Below V.heap.size V W → IsSts W vl l) := fun W hW => (hw.sts.turned hw.isM hg).below hW
  obtain ⟨b0, hb0⟩ : ∃ b0, V.heap.size = b0 := ⟨_, rfl⟩
  obtain ⟨nl, hnl⟩ : ∃ nl, l.length = nl := ⟨_, rfl⟩
  obtain ⟨nN, hnN⟩ : ∃ nN, N.length = nN := ⟨_, rfl⟩
  have HNl := Lib.hid hnl
  subst hvl hvn
  have hfl := hw.few
  rw [hnl] at hfl HSt HW
  rw [hnN] at HW
  rw [hnl, hnN]
  obtain ⟨V3, hV3⟩ : ∃ V3, ((V.alloc (.cells (webC (.slice al nl cl) (.slice an nN cn) m1 m2 m3) tW)).alloc (.cells #[.map (some ma)] tMM)).alloc (.cells #[.int .i64 ((many : Int) - 1)] 3) = V3 := ⟨_, rfl⟩
  have hS3 : WkS V V3 b0 ma n (webC (.slice al nl cl) (.slice an nN cn) m1 m2 m3) Q (b0 + 1 + 1) ((many : Int) - 1) (.slice none 0 0) [] := by
    rw [← hV3]
    refine ⟨(((Below.refl V.heap.size V).alloc (Nat.le_refl _) _).alloc (by simp) _).alloc (by simp; omega) _, hb0, ?_, ?_, ?_, World.ownsRow_nil _ _ _ _, by simp [Value.ownBlock], by omega⟩
    · rw [← hb0]; exact ((SBox.new V tW _).alloc _).alloc _
    · have := (Boxed.new (V.alloc (.cells (webC (.slice al nl cl) (.slice an nN cn) m1 m2 m3) tW)) tMM (.map (some ma))).alloc (.cells #[.int .i64 ((many : Int) - 1)] 3)
      simpa [hb0] using this
    · have := Boxed.new ((V.alloc (.cells (webC (.slice al nl cl) (.slice an nN cn) m1 m2 m3) tW)).alloc (.cells #[.map (some ma)] tMM)) 3 (.int .i64 ((many : Int) - 1))
      simpa [hb0] using this
  have HS3 := Lib.hid hS3
  have zm : IntKind.i64.wrap ((many : Int) - 1) = (many : Int) - 1 := by rw [IntKind.wrap_i64]; omega
  clear hS3 hw hg hE hA hWk hM hnl hnN
  go_enter Try.func36, Try.ntmps36
  go_wp2_with fail
  go_loopw [9, 10, 11] (fun pv av bv wr => ∃ (j r : Nat) (at_ : Int) (ps : List Nat) (br : Nat), j + r = many ∧ av = .int .i64 at_ ∧ bv = .pointer (some ⟨br, 0, none⟩) ∧ Hid (WkS V wr b0 ma n (webC (.slice al nl cl) (.slice an nN cn) m1 m2 m3) Q br ((r : Int) - 1) pv ps) ∧ Hid (ps.length = j) ∧ Hid (∀ p ∈ ps, p < l.length) ∧ Hid (ps.map (stA l) ++ ringPath l start r at_ = ringPath l start many start) ∧ Hid (Walk l j start at_) ∧ Hid (Walk l r at_ start) ∧ Hid (I64 at_)) (fun pv _ _ _ => many - slLen pv)
  case atStart => exact ⟨0, many, start, [], b0 + 1 + 1, by omega, rfl, rfl, HS3, rfl, (fun p hp => by cases hp), rfl, Walk.nil start, HWk, hIs⟩
  case round =>
    obtain ⟨j, r, at_, ps, br, hjr, rfl, rfl, HS, HPl, HPb, HPp, HWj, HWr, HIa⟩ := hrel
    have hS := HS.out
    have r0 := hS.rb.cell
    obtain ⟨ad, cc, rfl⟩ := own_shape11 hS.row
    by_cases hr0 : r = 0
    · subst hr0
      have jn : ¬ (0 : Int) ≤ ((0 : Nat) : Int) - 1 := by omega
      have HE9 : Hid (ps.map (stA l) = ringPath l start many start) := by have := HPp.out; rw [ringPath, List.append_nil] at this; exact this
      have Hl9 : Hid (ps.length = many) := by show _ = _; rw [HPl.out]; omega
      clear hS
      go_wp2_with fail
      go_ret
      exact ⟨_, ps, rfl, HS.out.bl, HS.out.row, Hl9.out, HPb.out, HE9.out⟩
    · obtain ⟨rest, rfl⟩ : ∃ rest, r = rest + 1 := ⟨r - 1, by omega⟩
      have er : ((rest + 1 : Nat) : Int) - 1 = (rest : Int) := by omega
      rw [er] at r0
      have jy : (0 : Int) ≤ (rest : Int) := by omega
      obtain ⟨ff, hff1, hff2⟩ := HF1.out
      obtain ⟨F, hF⟩ : ∃ F, frL l (inN N) at_ = F := ⟨_, rfl⟩
      have HFl : Hid (∀ i ∈ F, i < l.length) := by rw [← hF]; exact frK_lt l (inN N) l.length at_
      have hfi := hff2 at_
      rw [hF] at hfi
      obtain ⟨nx, hnx, k1, k2, k3, k4⟩ := path_firstF l N HE.out start many (aw Q) HA.out j rest at_ HWj.out (by omega) HWr.out F hF
      have HFi := Lib.hid hfi
      obtain ⟨aF, cF, hvF, f1, f2, f3, _⟩ := ints_at (hfi V (Below.refl _ _))
      have hvF' : (ff at_).getD (.slice none 0 0) = .slice aF F.length cF := hvF
      rw [hvF] at HFi
      have hFle : F.length ≤ l.length := by rw [← hF]; exact frK_len l (inN N) l.length at_
      obtain ⟨nF, hnF⟩ : ∃ nF, F.length = nF := ⟨_, rfl⟩
      have HNF := Lib.hid hnF
      rw [HNl.out] at hFle
      rw [hnF] at hvF' HFi f1 f3 hFle
      have hnx' : nx < nF := by omega
      have jx : (nx : Int) < (nF : Int) := by omega
      have hIa := HIa.out
      have hf0 := hff1 wr hS.bl
      have CX := pidxW_any wr l (.slice an nN cn) (.slice al nl cl) (.slice aF nF cF) F m1 m2 m3 ma n (b0 + 1) b0 br Q rest (HSt.out wr hS.bl) (HFi.out wr hS.bl) HFl.out HW.out.okl hS.ab (HMv.out wr hS.bl) hS.bx (by have := hS.rb; rw [er] at this; exact this)
      rw [k1] at CX
      have ex : oI (some nx) = (nx : Int) := rfl
      rw [ex] at CX
      have HFf := Lib.hid hff1
      have x3 := hS.bx.cell 3 _ rfl
      have Hk2 := Lib.hid k2
      have Hk3 := Lib.hid k3
      have Hk4 := Lib.hid k4
      have Hnx := Lib.hid hnx
      clear hff2 hfi hvF k1 ex hff1 hS hF hnF k2 k3 k4 er
      go_wp2_with (at_lookup; refine wpl_look _ rfl _ _ tMI rfl 22 Try.underlying42 (zeroS _) m2 _ _ rfl hf0 at_ hIa rfl _ hvF' ?_)
      refine CX.mono ?_
      rintro e w1 ⟨rfl, b1⟩
      have hS1 := HS.out.bel b1
      have HS1 := Lib.hid hS1
      have hnx9 := Hnx.out
      have hf1 := HFf.out w1 hS1.bl
      obtain ⟨aF', cF', ef, _, _, _, HFc⟩ := ints_at (HFi.out w1 hS1.bl)
      obtain ⟨bF, oF, ea, cellF⟩ := HFc.out nx hnx9
      obtain ⟨rfl, rfl⟩ : aF = aF' ∧ cF = cF' := by
        have hh := HNF.out
        simpa [hh] using ef
      subst ea
      have hpl : F[nx] < l.length := HFl.out _ (List.getElem_mem hnx9)
      have Hk2' : Hid ((stA l F[nx]).1 = at_) := Hk2.out
      have Hk3' : Hid (Walk l rest (stA l F[nx]).2.1 start) := Hk3.out
      have Hk4' : Hid (ringPath l start (rest + 1) at_ = stA l F[nx] :: ringPath l start rest (stA l F[nx]).2.1) := Hk4.out
      obtain ⟨pl, hpl2⟩ : ∃ pl, F[nx] = pl := ⟨_, rfl⟩
      have Hpl2 := Lib.hid hpl2
      rw [hpl2] at cellF hpl Hk2' Hk3' Hk4'
      have y3 := hS1.bx.cell 3 _ rfl
      have hrow := hS1.row
      have hap := hS1.ap
      have hrb := hS1.rb
      obtain ⟨np, hnp⟩ : ∃ np, ps.length = np := ⟨_, rfl⟩
      have Hnp := Lib.hid hnp
      rw [hnp] at hrow hap
      rw [hnp]
      have Hnpj : Hid (np = j) := by show _ = _; rw [← hnp]; exact HPl.out
      have hnpl : np < many := by have := Hnpj.out; omega
      have hsz1 : V.heap.size ≤ w1.heap.size := hS1.bl.size
      clear hS1 hpl2 hnp ef Hk2 Hk3 Hk4
      go_wp2_with (first
        | (at_lookup; refine wpl_look _ rfl _ _ tMI rfl 22 Try.underlying42 (zeroS _) m2 _ _ rfl hf1 at_ hIa rfl _ hvF' ?_)
        | (at_builtin; refine wpList_append_own_at _ rfl _ _ 22 rfl V.heap.size 3 i0 (.int .i64 0) 1 8 Try.underlying22 hi hz0 hz1 hz2 rfl (by decide) (.slice ad np cc) _ _ rfl (hrow.alloc _) ⟨w1.heap.size, 0, none⟩ 1 1 [.int .i64 (pl : Int)] rfl rfl ?a1 ?a2 ?a3 ?a4 ?a5 ?_))
      case a1 => intro jj u hj; match jj, hj with
        | 0, hj => simp at hj; subst hj; simp [Addr.add]
      case a2 => intro u hu; simp at hu; subst hu; rfl
      case a3 => unfold maxLen; omega
      case a4 => omega
      case a5 => simp; omega
      intro r3 w2 hown3 hg3 _ hat3
      obtain ⟨ad3, c3, rfl⟩ := own_shape11 hown3
      have hA1 := HS1.out.bel ((Below.refl _ w1).alloc (Nat.le_refl _) (.cells #[.int .i64 (pl : Int)] 3))
      have hgr : some br ≠ (Value.slice ad np cc).ownBlock := fun e => hap e.symm
      have hrow' : (w1.alloc (.cells #[.int .i64 (pl : Int)] 3)).ownsRow V.heap.size 3 1 (.slice ad np cc) np (plV ps) := hrow.alloc _
      have bl2 : Below V.heap.size V w2 := hA1.bl.grown hg3 (by simp; omega) (fun q hq => (hrow.lt q hq).1)
      have bx2 : SBox w2 b0 tW (webC (.slice al nl cl) (.slice an nN cn) m1 m2 m3) := (hg3.block _ hA1.bx.lt (block_not_row hA1.bx (by decide) hrow')).trans hA1.bx
      have ab2 : Boxed w2 (b0 + 1) tMM (.map (some ma)) := (hg3.block _ hA1.ab.lt (block_not_row hA1.ab (by decide) hrow')).trans hA1.ab
      have rb2 : Boxed w2 br 3 (.int .i64 (((rest + 1 : Nat) : Int) - 1)) := (hg3.block _ hA1.rb.lt hgr).trans hA1.rb
      have hbrl := HS1.out.rb.lt
      have er : ((rest + 1 : Nat) : Int) - 1 = (rest : Int) := by omega
      rw [er] at rb2
      have hf2 := HFf.out w2 bl2
      obtain ⟨aF', cF', ef, _, _, _, HFc⟩ := ints_at (HFi.out w2 bl2)
      obtain ⟨bF', oF', ea, cellF2⟩ := HFc.out nx hnx9
      obtain ⟨ea1, ea2⟩ : some ⟨bF, oF, none⟩ = aF' ∧ cF = cF' := by
        have hh := HNF.out
        simpa [hh] using ef
      rw [← ea1] at ea
      obtain ⟨rfl, rfl⟩ : bF = bF' ∧ oF = oF' := by simpa using ea
      rw [Hpl2.out] at cellF2
      obtain ⟨al', cl', el, _, _, _, HLc⟩ := sts_at (HSt.out w2 bl2)
      obtain ⟨bL, oL, eb, _, cell1⟩ := HLc.out pl hpl
      obtain ⟨rfl, rfl⟩ : al = al' ∧ cl = cl' := by
        have hh := HNl.out
        simpa [hh] using el
      subst eb
      have hIy : I64 (stA l pl).2.1 := (HW.out.okl _ (stA_mem l pl hpl)).2.1
      have hstp : stA l pl ∈ l := stA_mem l pl hpl
      have jp : (pl : Int) < (nl : Int) := by have := HNl.out; omega
      have q2 : ∀ k, (Instr.lookup tMI (.map (some m2)) (.int .i64 at_) false).run Try.prog (w2.drewN k) = .ok (.slice (some ⟨bF, oF, none⟩) nF cF) (w2.drewN k) := fun k => vlook_run (VMap.same hf2 (by rfl)) Try.underlying42 (zeroS _) at_ hIa _ hvF'
      obtain ⟨y, hy⟩ : ∃ y, (stA l pl).2.1 = y := ⟨_, rfl⟩
      have Hy := Lib.hid hy
      have HWj' : Hid (Walk l (j + 1) start y) := by
        have h1 : Walk l 1 at_ y := by rw [← Hk2'.out, ← hy]; exact Walk.cons _ 0 _ hstp (Walk.nil _)
        exact HWj.out.append h1
      rw [hy] at cell1 hIy Hk3' Hk4'
      have z0 := bx2.cell 0 _ rfl
      have z3 := bx2.cell 3 _ rfl
      have rr := rb2.cell
      have Hbl2 := Lib.hid bl2
      have Hbx2 := Lib.hid bx2
      have Hab2 := Lib.hid ab2
      have Hrb2 := Lib.hid rb2
      have Hown := Lib.hid hown3
      have Hhat := Lib.hid hat3
      have hs2 := hg3.size
      clear hA1 bl2 bx2 ab2 rb2 hf1 hf2 hown3 hat3 hg3 hrow hrow' ef el ea ea1 ea2 hy hstp
      go_wp2_with fail
      go_quiet (fail)
      generalize hwz : w2.drewN _ = wz
      have rz : wz.cell? ⟨br, 0, none⟩ = some (.int .i64 (rest : Int)) := by rw [← hwz]; exact rr
      have zr : IntKind.i64.wrap ((rest : Int) - 1) = (rest : Int) - 1 := by rw [IntKind.wrap_i64]; omega
      have hbz : Below w2.heap.size w2 wz := by rw [← hwz]; exact below_drewN (Below.refl _ _) _
      have Hsw : Hid (wz.heap.size = w2.heap.size) := by rw [← hwz]; rfl
      have HSn : Hid (WkS V (wz.alloc (.cells #[.int .i64 ((rest : Int) - 1)] 3)) b0 ma n (webC (.slice (some ⟨bL, oL, none⟩) nl cl) (.slice an nN cn) m1 m2 m3) Q wz.heap.size ((rest : Int) - 1) (.slice ad3 (np + 1) c3) (ps ++ [pl])) := by
        have hbA : Below w2.heap.size w2 (wz.alloc (.cells #[.int .i64 ((rest : Int) - 1)] 3)) := bel_trans hbz ((Below.refl _ wz).alloc (Nat.le_refl _) _)
        have hsw := Hsw.out
        have hap3 : (Value.slice ad3 (np + 1) c3).ownBlock ≠ some wz.heap.size := fun e => by have := (Hown.out.lt _ e).2; omega
        refine ⟨bel_trans Hbl2.out hbA, hb0, Hbx2.out.below hbA, boxed_below7 Hab2.out hbA, Boxed.new wz 3 _, ?_, hap3, by have := Hbx2.out.lt; omega⟩
        have h1 := Hown.out.kept (grown_below8 none hbA) (by cases (Value.slice ad3 (np + 1) c3).ownBlock <;> simp)
        rw [List.length_append, Hnp.out]
        unfold plV at h1 ⊢
        rw [List.map_append, iV_app, hb0]
        exact h1
      have HPl' : Hid ((ps ++ [pl]).length = j + 1) := by show _ = _; rw [List.length_append, HPl.out]; rfl
      have HPb' : Hid (∀ p ∈ ps ++ [pl], p < l.length) := fun p hp => by
        rcases List.mem_append.1 hp with hp | hp
        · exact HPb.out p hp
        · rw [List.mem_singleton] at hp; rw [hp]; exact hpl
      have HPp' : Hid ((ps ++ [pl]).map (stA l) ++ ringPath l start rest y = ringPath l start many start) := by
        show _ = _
        rw [← HPp.out, Hk4'.out, List.map_append]
        simp
      have HIy := Lib.hid hIy
      clear hbz hwz hIy rr z0 z3 q2
      go_wp2_with fail
      refine ⟨⟨j + 1, rest, y, ps ++ [pl], wz.heap.size, by omega, rfl, rfl, HSn, HPl', HPb', HPp', HWj', Hk3', HIy⟩, by have := Hnpj.out; have := Hnp.out; simp [slLen]; omega⟩
end Go.Proofs.Ytpfpkpaodlmlaaa
namespace Go.Proofs.Ytpfpkpaodlmlaaa
set_option maxRecDepth 100000
open Go.RowKit Go.Maps
set_option linter.unusedVariables false
attribute [local go_sem] ba_size
def pot (l : List Stp) (S : Int → Bool) : Nat := l.countP (fun s => S s.1) + l.countP (fun s => S s.2.1)
theorem pot_le (l : List Stp) (S : Int → Bool) : pot l S ≤ 2 * l.length := by
  unfold pot
  have h1 : l.countP (fun s => S s.1) ≤ l.length := List.countP_le_length
  have h2 : l.countP (fun s => S s.2.1) ≤ l.length := List.countP_le_length
  omega
theorem pot_drop (l : List Stp) (S S0 : Int → Bool) (x : Int) (hx : S x = true) : pot l (dropB S x) + (outX l S0 x).length + (inX l S0 x).length ≤ pot l S := by
  have e1 : l.countP (fun s => S s.1) = l.countP (fun s => dropB S x s.1) + l.countP (fun s => decide (s.1 = x)) := countP_split l _ _ _ fun s _ => by
    unfold dropB
    by_cases h : s.1 = x
    · simp [h, hx]
    · simp [h]
  have e2 : l.countP (fun s => S s.2.1) = l.countP (fun s => dropB S x s.2.1) + l.countP (fun s => decide (s.2.1 = x)) := countP_split l _ _ _ fun s _ => by
    unfold dropB
    by_cases h : s.2.1 = x
    · simp [h, hx]
    · simp [h]
  have l1 : (outX l S0 x).length ≤ l.countP (fun s => decide (s.1 = x)) := by
    unfold outX frL frK
    rw [List.length_map, ← List.countP_eq_length_filter, ← range_count l (fun s => decide (s.1 = x))]
    exact List.countP_mono_left fun i _ h => by simp at h; simp [h.1]
  have l2 : (inX l S0 x).length ≤ l.countP (fun s => decide (s.2.1 = x)) := by
    unfold inX toL toK
    rw [List.length_map, ← List.countP_eq_length_filter, ← range_count l (fun s => decide (s.2.1 = x))]
    exact List.countP_mono_left fun i _ h => by simp at h; simp [h.1]
  unfold pot
  omega
/-- Fewer are left; no ring is lost. -/
def Less (l : List Stp) (S0 S : Int → Bool) : Prop := (∀ x, S x = true → S0 x = true) ∧ ∀ T, AllIn l T S0 → AllIn l T S
theorem Less.refl (l : List Stp) (S : Int → Bool) : Less l S S := ⟨fun _ h => h, fun _ h => h⟩
theorem Less.drop {l : List Stp} {S0 S : Int → Bool} (h : Less l S0 S) (x : Int) (hx : inC l S x = 0 ∨ outC l S x = 0) : Less l S0 (dropB S x) :=
  ⟨fun y hy => h.1 y (by unfold dropB at hy; simp at hy; exact hy.1), fun T hT => (h.2 T hT).strip x hx⟩
structure StS (Wc V0 V : World) (m1 bt B bv : Nat) (cs : Array Value) (l : List Stp) (S : Int → Bool) (a : List Int) : Prop where
  cm : CMap V m1 17592186044416 (cntF l S)
  gr : Wc.grownBy V (some m1)
  g0 : V0.grownBy V (some m1)
  bx : SBox V bt tW cs
  vr : VrS V B bv a
theorem StS.bel {Wc V0 V V' : World} {m1 bt B bv : Nat} {cs : Array Value} {l : List Stp} {S : Int → Bool} {a : List Int} (h : StS Wc V0 V m1 bt B bv cs l S a) (hb : Below V.heap.size V V') : StS Wc V0 V' m1 bt B bv cs l S a :=
  ⟨h.cm.bel hb h.cm.lt, h.gr.trans (grown_below8 _ hb), h.g0.trans (grown_below8 _ hb), h.bx.below hb, h.vr.bel hb⟩
def StRes (Wc V0 : World) (m1 : Nat) (l : List Stp) (S0 : Int → Bool) (V' : World) : Prop := ∃ S, Less l S0 S ∧ CMap V' m1 17592186044416 (cntF l S) ∧ Wc.grownBy V' (some m1) ∧ V0.grownBy V' (some m1)
set_option maxHeartbeats 8000000 in
theorem pstrip11_any (Wc V : World) (l : List Stp) (N : List Int) (vl vn : Value) (m1 m2 m3 : Nat) (hw : Web Wc l N vl vn m1 m2 m3) (S0 : Int → Bool) (hS0 : ∀ y, S0 y = true → y ∈ N) (hM : CMap V m1 17592186044416 (cntF l S0)) (hg : Wc.grownBy V (some m1)) (v : Value) (L : List Int) (hO : IsInts V v L) (hSv : Shp v) (okL : ∀ y ∈ L, y ∈ N) (hL : L.length ≤ 7036874417560) :
    Calls Try.prog 33 #[webV vl vn m1 m2 m3, v] V fun e V' => e = .returned (.tuple #[]) ∧ StRes Wc V m1 l S0 V' := by
  have HW := Lib.hid hw
  have hml := isMap_lt hw.isM
  have hfl := hw.few
  have hgs := hg.size
  obtain ⟨al, cl, rfl, _⟩ := sts_at hw.sts
  obtain ⟨an, cn, rfl, _⟩ := hw.nums.some_at
  obtain ⟨av, cv, hvv, _⟩ := hO.some_at
  obtain ⟨cs, hcs⟩ : ∃ cs, webC (.slice al l.length cl) (.slice an N.length cn) m1 m2 m3 = cs := ⟨_, rfl⟩
  have hMa := hM.kept (World.grownBy_alloc V (.cells cs tW) none) (by simp)
  have hOa := hO.below ((Below.refl _ V).alloc (Nat.le_refl _) (.cells cs tW))
  have CC := pcloneI_any v L (V.alloc (.cells cs tW)) hOa hSv (by omega)
  have hXa := SBox.new V tW cs
  have HMa := Lib.hid hMa
  have HXa := Lib.hid hXa
  have Hga : Hid (Wc.grownBy (V.alloc (.cells cs tW)) (some m1)) := hg.trans (World.grownBy_alloc _ _ _)
  have HokL := Lib.hid okL
  have HS0 := Lib.hid hS0
  rw [← hcs] at CC
  subst hvv
  obtain ⟨nl, hnl⟩ : ∃ nl, l.length = nl := ⟨_, rfl⟩
  obtain ⟨nN, hnN⟩ : ∃ nN, N.length = nN := ⟨_, rfl⟩
  rw [hnl, hnN] at hcs CC HW
  rw [hnl] at hfl
  rw [hnl, hnN]
  have Hcs := Lib.hid hcs
  have HNl := Lib.hid hnl
  clear hw hM hg hO hSv hMa hOa hXa okL hS0 hcs hnl hnN
  go_enter Try.func33, Try.ntmps33
  go_wp2_with fail
  refine CC.mono ?_
  rintro e w1 ⟨v1, rfl, b1, own1⟩
  rw [Hcs.out] at b1 own1
  obtain ⟨a1, c1, rfl⟩ := own_shape11 own1
  obtain ⟨bv, hbv⟩ : ∃ bv, w1.heap.size = bv := ⟨_, rfl⟩
  have hB : V.heap.size + 1 ≤ w1.heap.size := by have := b1.size; simp at this; exact this
  have bA : Below w1.heap.size w1 (w1.alloc (.cells #[.slice a1 L.length c1] tI)) := (Below.refl _ w1).alloc (Nat.le_refl _) _
  have HSt : Hid (StS Wc V (w1.alloc (.cells #[.slice a1 L.length c1] tI)) m1 V.heap.size (V.heap.size + 1) bv cs l S0 L) := by
    have hS1 : Below (V.alloc (.cells cs tW)).heap.size (V.alloc (.cells cs tW)) (w1.alloc (.cells #[.slice a1 L.length c1] tI)) := bel_trans b1 bA
    refine ⟨HMa.out.bel hS1 HMa.out.lt, Hga.out.trans (grown_below8 _ hS1), (World.grownBy_alloc V _ _).trans (grown_below8 _ hS1), HXa.out.below hS1, by omega, .slice a1 L.length c1, ?_, ?_⟩
    · rw [← hbv]; exact Boxed.new w1 tI _
    · have : (V.alloc (.cells cs tW)).heap.size = V.heap.size + 1 := by simp
      rw [this] at own1
      exact own1.alloc _
  have Hle : Hid (L.length + pot l S0 ≤ 14073748835120) := by show _ ≤ _; have := pot_le l S0; have := HNl.out; omega
  clear own1 b1 bA CC
  go_wp2_with fail
  go_loopg [5] (L.length + pot l S0) (fun g nv wr => ∃ (S : Int → Bool) (a : List Int), Hid (StS Wc V wr m1 V.heap.size (V.heap.size + 1) bv cs l S a) ∧ Hid (Less l S0 S) ∧ a.length + pot l S ≤ g ∧ g ≤ 14073748835120 ∧ Hid (∀ y ∈ a, y ∈ N))
  case atStart => exact ⟨S0, L, HSt, Less.refl l S0, Nat.le_refl _, Hle.out, HokL⟩
  case round =>
    obtain ⟨S, a, HS, HLs, hga, hgb, HaN⟩ := hrel
    obtain ⟨hB9, vv, hbx, hrow⟩ := HS.out.vr
    obtain ⟨ad, cc, rfl⟩ := own_shape11 hrow
    have p0 := hbx.cell
    have f0 := hbx.frozen
    have Hbx := Lib.hid hbx
    have Hrow := Lib.hid hrow
    have hbl := hbx.lt
    rcases List.eq_nil_or_concat a with rfl | ⟨a', x, rfl⟩
    · simp only [List.length_nil] at p0
      have HR : Hid (StRes Wc V m1 l S0 wr) := ⟨S, HLs.out, HS.out.cm, HS.out.gr, HS.out.g0⟩
      clear hbx hrow
      go_wp2_with fail
      go_end0
      exact ⟨rfl, HR.out⟩
    · rw [List.concat_eq_append] at *
      obtain ⟨na, hna⟩ : ∃ na, a'.length = na := ⟨_, rfl⟩
      have hln : (a' ++ [x]).length = na + 1 := by rw [List.length_append, hna]; rfl
      rw [hln] at p0 hrow hbx hga
      have Hna := Lib.hid hna
      obtain ⟨g9, ea, cellx⟩ := own_at11 hrow na (by omega)
      subst ea
      have ex : (a' ++ [x]).getD na 0 = x := by rw [← hna]; simp
      rw [ex] at cellx
      have hxN : x ∈ N := HaN.out x (by simp)
      have hIx : I64 x := HW.out.okN x hxN
      have HaN' : Hid (∀ y ∈ a', y ∈ N) := fun y hy => HaN.out y (by simp [hy])
      obtain ⟨_, _, _, k1, k2, _⟩ : ∃ g cp cur, na + 1 ≤ cc ∧ cc ≤ 9223372036854775807 ∧ True := by
        rcases hrow.2 with ⟨e, _⟩ | ⟨g, cp, cur, e, _, _, q1, q2, _⟩
        · cases e
        · obtain ⟨_, rfl⟩ : _ ∧ cc = cp := by simpa using e
          exact ⟨g, cc, cur, q1, by unfold maxLen at q2; omega, trivial⟩
      have w1f : IntKind.i64.wrap ((na : Int) + 1 - 1) = (na : Int) := by rw [IntKind.wrap_i64]; omega
      have j1 : (na : Int) < (na : Int) + 1 := by omega
      have j2 : (na : Int) ≤ (cc : Int) := by omega
      have j3 : na ≤ cc := by omega
      have hgne : g9 ≠ bv := fun e => block_not_row hbx (by decide) hrow (by rw [e]; simp [Value.ownBlock])
      obtain ⟨wc, hwc⟩ : ∃ wc, wr.setCell ⟨bv, 0, none⟩ (.slice (some ⟨g9, 0, none⟩) na cc) = wc := ⟨_, rfl⟩
      have gc : wr.grownBy wc (some bv) := by rw [← hwc]; exact Lib.grownBy_setCell _ _ _ _
      have hcut : wr.ownsRow (V.heap.size + 1) 3 1 (.slice (some ⟨g9, 0, none⟩) na cc) na (iV a') := by
        have hR : HRow wr (V.heap.size + 1) g9 cc (a' ++ [x]) := by unfold HRow; rw [hln]; exact hrow
        have := own_cut11 (n := na) hR (by omega)
        rw [List.take_left' hna] at this
        exact this
      have hSc : StS Wc V wc m1 V.heap.size (V.heap.size + 1) bv cs l S a' := by
        have h0 := HS.out
        have hs0 := h0.g0.size
        refine ⟨h0.cm.kept gc (fun e => by have := Option.some.inj e; omega), ⟨gc.os.trans h0.gr.os, gc.tape.trans h0.gr.tape, gc.output.trans h0.gr.output, Nat.le_trans h0.gr.size gc.size, fun q hq hne => (gc.block q (by have := h0.gr.size; omega) (fun e => by have := Option.some.inj e; omega)).trans (h0.gr.block q hq hne)⟩, ⟨gc.os.trans h0.g0.os, gc.tape.trans h0.g0.tape, gc.output.trans h0.g0.output, Nat.le_trans h0.g0.size gc.size, fun q hq hne => (gc.block q (by have := h0.g0.size; omega) (fun e => by have := Option.some.inj e; omega)).trans (h0.g0.block q hq hne)⟩, (gc.block _ h0.bx.lt (fun e => by have := Option.some.inj e; omega)).trans h0.bx, hB9, _, by rw [← hwc]; exact hbx.set _, ?_⟩
        rw [hna]
        rw [← hwc]
        exact owns_keep7 hcut _ (fun e => hgne (by simpa [Value.ownBlock] using e.symm))
      have HSc := Lib.hid hSc
      have x2 := hSc.bx.cell 2 (.map (some m1)) (by rw [← Hcs.out]; rfl)
      have hcmc := hSc.cm
      unfold CMap at hcmc
      have hSN : ∀ y, S y = true → y ∈ N := fun y hy => HS0.out y (HLs.out.1 y hy)
      have HSN := Lib.hid hSN
      have hisx : (cntF l S x).isSome = S x := by unfold cntF; cases S x <;> rfl
      have Hisx := Lib.hid hisx
      obtain ⟨pi, po, hpv, hpi, hpo⟩ : ∃ pi po : Int, ((cntF l S x).map cntV).getD (.agg #[.int .i64 0, .int .i64 0]) = .agg #[.int .i64 pi, .int .i64 po] ∧ (S x = true → pi = (inC l S x : Nat)) ∧ (S x = true → po = (outC l S x : Nat)) := by
        by_cases h : S x = true
        · exact ⟨_, _, by unfold cntF; rw [if_pos h]; rfl, fun _ => rfl, fun _ => rfl⟩
        · exact ⟨0, 0, by unfold cntF; rw [if_neg h]; rfl, fun h' => absurd h' h, fun h' => absurd h' h⟩
      have Hpi := Lib.hid hpi
      have Hpo := Lib.hid hpo
      have hSd := hSc.bel ((Below.refl _ wc).alloc (Nat.le_refl _) (.cells #[.int .i64 pi, .int .i64 po] tC))
      have hxd := SBox.new wc tC #[.int .i64 pi, .int .i64 po]
      have HSd := Lib.hid hSd
      have Hxd := Lib.hid hxd
      have hbd := hSd.bx
      rw [← Hcs.out] at hbd
      have y0 := hbd.cell 0 _ rfl
      have y1 := hbd.cell 1 _ rfl
      have y2 := hbd.cell 2 _ rfl
      have y3 := hbd.cell 3 _ rfl
      have y4 := hbd.cell 4 _ rfl
      have CH := fun (bo : Bool) (hbo : (cntF l S x).isSome = bo) => phas11_any (.slice al nl cl) (.slice an nN cn) m1 m2 m3 17592186044416 (cntF l S) x _ hIx hSd.cm bo hbo
      clear hbx hrow hcut hSc hSN hisx hpi hpo hSd hxd hbd hna hln ex gc
      cases hSx : S x with
      | false =>
        have CH1 := CH false (by rw [Hisx.out]; exact hSx)
        clear CH
        go_wp2_with (at_lookup; refine wpl_look _ rfl _ _ tML rfl tC Try.underlying41 (zeroC _) m1 _ _ rfl hcmc x hIx rfl _ hpv ?_)
        refine CH1.mono ?_
        rintro e w2 ⟨rfl, b2⟩
        have hxe := Hxd.out.below b2
        have z0 := hxe.cell 0 _ rfl
        have z1 := hxe.cell 1 _ rfl
        have HS2 := Lib.hid (HSd.out.bel b2)
        clear hxe
        go_wp2_with fail
        go_roundg (na + pot l S)
        case measure => omega
        case rel => exact ⟨S, a', HS2, HLs, by have := Hna.out; omega, by omega, HaN'⟩
      | true =>
        have hpi := Hpi.out hSx
        have hpo := Hpo.out hSx
        by_cases h0 : pi = 0
        · have HP0 : Hid (inC l S x = 0) := by show _ = _; omega
          subst h0
          clear hpi hpo
          have CH1 := CH true (by rw [Hisx.out]; exact hSx)
          clear CH
          go_wp2_with (at_lookup; refine wpl_look _ rfl _ _ tML rfl tC Try.underlying41 (zeroC _) m1 _ _ rfl hcmc x hIx rfl _ hpv ?_)
          refine CH1.mono ?_
          rintro e w2 ⟨rfl, b2⟩
          have hxe := Hxd.out.below b2
          have z0 := hxe.cell 0 _ rfl
          have z1 := hxe.cell 1 _ rfl
          have HS2 := Lib.hid (HSd.out.bel b2)
          clear hxe
          have hS2 := HS2.out
          have hb2 := hS2.bx
          rw [← Hcs.out] at hb2
          have u0 := hb2.cell 0 _ rfl
          have u1 := hb2.cell 1 _ rfl
          have u2 := hb2.cell 2 _ rfl
          have u3 := hb2.cell 3 _ rfl
          have u4 := hb2.cell 4 _ rfl
          have hpd := pot_drop l S (inN N) x hSx
          have hna := Hna.out
          have CT := ptakeS_any Wc w2 l N (.slice al nl cl) (.slice an nN cn) m1 m2 m3 HW.out S HSN.out hS2.cm hS2.gr x hSx (V.heap.size + 1) bv (by omega) a' hS2.vr (fun U => SBox U V.heap.size tW cs ∧ V.grownBy U (some m1)) ⟨hS2.bx, hS2.g0⟩
            (fun U U' hU hgU => ⟨(hgU.block _ hU.1.lt (fun e => by have := Option.some.inj e; omega)).trans hU.1, hU.2.trans hgU⟩)
            (fun U U' aa hU hVr hfU => ⟨hfU.box hU.1 (by omega) (hVr.vb hU.1 (by decide)), ⟨hfU.bel.os.trans hU.2.os, hfU.bel.tape.trans hU.2.tape, hfU.bel.output.trans hU.2.output, Nat.le_trans hU.2.size hfU.bel.size, fun q hq hne => (hfU.bel.block q (by omega)).trans (hU.2.block q hq hne)⟩⟩)
            14073748835120 (by omega) (by omega) HaN'.out
          have HLd := Lib.hid (HLs.out.drop x (.inl HP0.out))
          have Hpd := Lib.hid hpd
          clear hS2 hb2 hpd
          go_wp2_with fail
          refine CT.mono ?_
          rintro e w3 ⟨rfl, ⟨a3, hv3, hl3, hn3⟩, ⟨hx3, hg3⟩, hc3, hgr3⟩
          have HS3 : Hid (StS Wc V w3 m1 V.heap.size (V.heap.size + 1) bv cs l (dropB S x) a3) := ⟨hc3, hgr3, hg3, hx3, hv3⟩
          have HN3 := Lib.hid hn3
          clear hv3 hn3 hx3 hg3 hc3 hgr3
          go_wp2_with fail
          go_roundg (a3.length + pot l (dropB S x))
          case measure => have := Hpd.out; omega
          case rel => exact ⟨dropB S x, a3, HS3, HLd, Nat.le_refl _, by have := Hpd.out; omega, HN3⟩
        · have e0 : (pi == 0) = false := by simp [h0]
          by_cases h1 : po = 0
          · have HP0 : Hid (outC l S x = 0) := by show _ = _; omega
            subst h1
            clear hpi hpo
            have CH1 := CH true (by rw [Hisx.out]; exact hSx)
            clear CH
            go_wp2_with (at_lookup; refine wpl_look _ rfl _ _ tML rfl tC Try.underlying41 (zeroC _) m1 _ _ rfl hcmc x hIx rfl _ hpv ?_)
            refine CH1.mono ?_
            rintro e w2 ⟨rfl, b2⟩
            have hxe := Hxd.out.below b2
            have z0 := hxe.cell 0 _ rfl
            have z1 := hxe.cell 1 _ rfl
            have HS2 := Lib.hid (HSd.out.bel b2)
            clear hxe
            have hS2 := HS2.out
            have hb2 := hS2.bx
            rw [← Hcs.out] at hb2
            have u0 := hb2.cell 0 _ rfl
            have u1 := hb2.cell 1 _ rfl
            have u2 := hb2.cell 2 _ rfl
            have u3 := hb2.cell 3 _ rfl
            have u4 := hb2.cell 4 _ rfl
            have hpd := pot_drop l S (inN N) x hSx
            have hna := Hna.out
            have CT := ptakeS_any Wc w2 l N (.slice al nl cl) (.slice an nN cn) m1 m2 m3 HW.out S HSN.out hS2.cm hS2.gr x hSx (V.heap.size + 1) bv (by omega) a' hS2.vr (fun U => SBox U V.heap.size tW cs ∧ V.grownBy U (some m1)) ⟨hS2.bx, hS2.g0⟩
              (fun U U' hU hgU => ⟨(hgU.block _ hU.1.lt (fun e => by have := Option.some.inj e; omega)).trans hU.1, hU.2.trans hgU⟩)
              (fun U U' aa hU hVr hfU => ⟨hfU.box hU.1 (by omega) (hVr.vb hU.1 (by decide)), ⟨hfU.bel.os.trans hU.2.os, hfU.bel.tape.trans hU.2.tape, hfU.bel.output.trans hU.2.output, Nat.le_trans hU.2.size hfU.bel.size, fun q hq hne => (hfU.bel.block q (by omega)).trans (hU.2.block q hq hne)⟩⟩)
              14073748835120 (by omega) (by omega) HaN'.out
            have HLd := Lib.hid (HLs.out.drop x (.inr HP0.out))
            have Hpd := Lib.hid hpd
            clear hS2 hb2 hpd
            go_wp2_with fail
            refine CT.mono ?_
            rintro e w3 ⟨rfl, ⟨a3, hv3, hl3, hn3⟩, ⟨hx3, hg3⟩, hc3, hgr3⟩
            have HS3 : Hid (StS Wc V w3 m1 V.heap.size (V.heap.size + 1) bv cs l (dropB S x) a3) := ⟨hc3, hgr3, hg3, hx3, hv3⟩
            have HN3 := Lib.hid hn3
            clear hv3 hn3 hx3 hg3 hc3 hgr3
            go_wp2_with fail
            go_roundg (a3.length + pot l (dropB S x))
            case measure => have := Hpd.out; omega
            case rel => exact ⟨dropB S x, a3, HS3, HLd, Nat.le_refl _, by have := Hpd.out; omega, HN3⟩
          · have e1 : (po == 0) = false := by simp [h1]
            clear hpi hpo
            have CH1 := CH true (by rw [Hisx.out]; exact hSx)
            clear CH
            go_wp2_with (at_lookup; refine wpl_look _ rfl _ _ tML rfl tC Try.underlying41 (zeroC _) m1 _ _ rfl hcmc x hIx rfl _ hpv ?_)
            refine CH1.mono ?_
            rintro e w2 ⟨rfl, b2⟩
            have hxe := Hxd.out.below b2
            have z0 := hxe.cell 0 _ rfl
            have z1 := hxe.cell 1 _ rfl
            have HS2 := Lib.hid (HSd.out.bel b2)
            clear hxe
            go_wp2_with fail
            go_roundg (na + pot l S)
            case measure => omega
            case rel => exact ⟨S, a', HS2, HLs, by have := Hna.out; omega, by omega, HaN'⟩
end Go.Proofs.Ytpfpkpaodlmlaaa
