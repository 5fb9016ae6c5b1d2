/-
  What edges.Steps answers.
-/
import Derived.Test.YteehpkkkagdckaaGS
import Derived.Test.YteehpkkkagdckaaGE
namespace Go.Proofs.Yteehpkkkagdckaa
set_option maxRecDepth 100000
open Go.RowKit Go.Maps
set_option linter.unusedVariables false
attribute [local go_sem] ba_size
/-- Steps in a row, while they are made: each one's edges lie in a row of its own. -/
def StP (W : World) (L' : List SVt) (L : List Stp) : Prop := L'.length = L.length ∧ ∀ (i : Nat) x s, L'[i]? = some x → L[i]? = some s → x.1 = s.1 ∧ x.2.1 = s.2.1 ∧ (∃ B, W.ownsRow B 24 5 x.2.2 s.2.2.length (recV edV s.2.2)) ∧ s.2.2.length ≤ 2
theorem StP.nil (W : World) : StP W [] [] := ⟨rfl, fun i x s h => by simp at h⟩
theorem StP.of {W : World} {L' : List SVt} {L : List Stp} (h : StP W L' L) : StOf W L' L :=
  ⟨h.1, fun i x s hx hs => by obtain ⟨a, b, ⟨B, c⟩, d⟩ := h.2 i x s hx hs; exact ⟨a, b, IsRec.own edV_len (by omega) c (by omega)⟩⟩
theorem StP.below {W W' : World} {L' : List SVt} {L : List Stp} (h : StP W L' L) (hb : Below W.heap.size W W') : StP W' L' L :=
  ⟨h.1, fun i x s hx hs => by obtain ⟨a, b, ⟨B, c⟩, d⟩ := h.2 i x s hx hs; exact ⟨a, b, ⟨B, owns_below c hb⟩, d⟩⟩
theorem owns_kept10 {W W' : World} {B e k n B' e' k' n' : Nat} {v r : Value} {xs ys : List Value} (h : W.ownsRow B e k v n xs) (hr : W.ownsRow B' e' k' r n' ys) (hte : e ≠ e') (hg : W.grownBy W' r.ownBlock) : W'.ownsRow B e k v n xs := by
  refine h.kept hg ?_
  rcases h.2 with ⟨rfl, _⟩ | ⟨g, cap, cur, rfl, _, hgb, _⟩
  · exact .inl rfl
  · exact .inr (fun e => block_not_row hgb hte hr e)
theorem StP.push {W W' : World} {L' : List SVt} {L : List Stp} {B B' n : Nat} {r v : Value} {xs : List Value} (h : StP W L' L) (hrow : W.ownsRow B 50 3 r n xs) (a b : Int) (es : List Ed) (h2 : es.length ≤ 2) (hv : W.ownsRow B' 24 5 v es.length (recV edV es)) (hg : W.grownBy W' r.ownBlock) : StP W' (L' ++ [(a, b, v)]) (L ++ [(a, b, es)]) := by
  refine ⟨by simp [h.1], fun i x s hx hs => ?_⟩
  rcases Nat.lt_or_ge i L'.length with hi | hi
  · rw [List.getElem?_append_left hi] at hx
    rw [List.getElem?_append_left (by rw [← h.1]; exact hi)] at hs
    obtain ⟨p, q, ⟨B, c⟩, d⟩ := h.2 i x s hx hs
    exact ⟨p, q, ⟨B, owns_kept10 c hrow (by decide) hg⟩, d⟩
  · rw [List.getElem?_append_right hi] at hx
    rw [List.getElem?_append_right (by rw [← h.1]; exact hi)] at hs
    rw [h.1] at hx
    rcases Nat.eq_zero_or_pos (i - L.length) with h0 | h0
    · rw [h0] at hx hs
      simp only [List.getElem?_cons_zero, Option.some.injEq] at hx hs
      subst hx hs
      exact ⟨rfl, rfl, ⟨B', owns_kept10 hv hrow (by decide) hg⟩, h2⟩
    · rw [List.getElem?_eq_none (by simp; omega)] at hx
      cases hx
set_option maxHeartbeats 4000000 in
theorem pserial_any (l : List Ed) (v : Value) (w : World) (hT : IsEds w v l) (hle : l.length ≤ 1000) :
    Calls Try.prog 41 #[v] w fun e w' => StRow 50 w (stepsL 1 l) e w' := by
  obtain ⟨a, cap, rfl, h1, h2, h3, HC⟩ := hT.reads
  obtain ⟨n, hn⟩ : ∃ n, l.length = n := ⟨_, rfl⟩
  have HN : Hid (l.length = n) := hn
  rw [hn] at h1 h3 hle ⊢
  clear hT hn
  go_enter Try.func41, Try.ntmps41
  go_wp2_with fail
  go_loopw [3, 8] (fun r i wr => ∃ (k c : Nat) (L' : List SVt), k ≤ n ∧ c ≤ k ∧ i = .int .i64 k ∧ Hid (L'.length = c) ∧ Hid (StP wr L' (sTo 1 l k)) ∧ Below w.heap.size w wr ∧ wr.ownsRow w.heap.size 50 3 r c (recV stV L')) (fun _ i _ => n - (intOf i).toNat)
  case atStart => exact ⟨0, 0, [], Nat.zero_le _, by omega, rfl, rfl, StP.nil _, Below.refl _ _, World.ownsRow_nil _ _ _ _⟩
  case round =>
    obtain ⟨k, c, L', hk, hc, rfl, HL, HS, hbw, hrow⟩ := hrel
    by_cases hlt : k < n
    · have hk1 : Hid (k < l.length) := by show k < _; rw [HN.out]; exact hlt
      have j0 : (k : Int) < (n : Int) := by omega
      obtain ⟨bb, off, rfl, HQ⟩ := HC.out (by have := hk1.out; omega)
      obtain ⟨⟨e0, e1, e2, e3, e4⟩, he⟩ : ∃ x, l[k]'hk1.out = x := ⟨_, rfl⟩
      have HE : Hid (l[k]'hk1.out = (e0, e1, e2, e3, e4)) := he
      have HNx : Hid (sTo 1 l (k + 1) = sTo 1 l k ++ stepOf 1 l (e0, e1, e2, e3, e4)) := by show _ = _; rw [sTo_next 1 l k hk1.out, he]
      obtain ⟨x0, x1, x2, x3, x4⟩ := HQ.out k hk1.out _ hbw
      rw [he] at x0 x1 x2 x3 x4
      simp only at x0 x1 x2 x3 x4
      clear he
      have XE := SBox.new wr 24 #[.int .i64 e0, .int .i64 e1, .int .i64 e2, .int .i64 e3, .int .i64 e4]
      have BE := hbw.alloc hbw.size (.cells #[.int .i64 e0, .int .i64 e1, .int .i64 e2, .int .i64 e3, .int .i64 e4] 24)
      have hrowE := hrow.alloc (.cells #[.int .i64 e0, .int .i64 e1, .int .i64 e2, .int .i64 e3, .int .i64 e4] 24)
      have y0 := XE.cell 0 _ rfl
      have y1 := XE.cell 1 _ rfl
      have y2 := XE.cell 2 _ rfl
      have y3 := XE.cell 3 _ rfl
      have y4 := XE.cell 4 _ rfl
      have HSE : Hid (StP (wr.alloc (.cells #[.int .i64 e0, .int .i64 e1, .int .i64 e2, .int .i64 e3, .int .i64 e4] 24)) L' (sTo 1 l k)) := HS.out.below ((Below.refl _ _).alloc (Nat.le_refl _) _)
      obtain ⟨_, _, rfl⟩ := own_shape hrow
      have HO : Hid (stepOf 1 l (e0, e1, e2, e3, e4) = [(e1, e2, [(e0, e1, e2, e3, e4)])]) := stepOf_1 l _
      go_wp2_with fail
      refine (palone_any e0 e1 e2 e3 e4 _).mono ?_
      rintro e1' w1 ⟨ad, c1, rfl, b1, ho1⟩
      have hs1 := HSE.out.below b1
      have hr1 := owns_below hrowE b1
      have B1 := bel_trans BE b1
      go_wp2_with fail
      refine (pbhS_any _ c _ e1 e2 ad 1 c1 w.heap.size _ hr1 (by have := B1.size; omega) (by omega)).mono ?_
      rintro e2' w3 ⟨r3, rfl, hown3, hg3, hat3⟩
      have hs3 := hs1.push hr1 (e1) (e2) [(e0, e1, e2, e3, e4)] (by simp) ho1 hg3
      have B3 : Below w.heap.size w w3 := B1.grown hg3 (by have := B1.size; omega) (fun j hj => own_far hr1 j hj)
      go_wp2_with fail
      refine ⟨⟨k + 1, c + 1, L' ++ [(e1, e2, .slice ad 1 c1)], by omega, by omega, by first | go_num | simp, by show _ = _; rw [List.length_append, HL.out]; rfl, by show StP _ _ _; rw [HNx.out, HO.out]; exact hs3, B3, by rw [recS_snoc]; exact hown3⟩, by simp [intOf]; omega⟩
    · obtain rfl : k = n := by omega
      have jq : ¬ (k : Int) < (k : Int) := by omega
      go_wp2_with fail
      go_ret
      have e : sTo 1 l k = stepsL 1 l := by rw [← HN.out, sTo_all]
      have hs := HS.out
      rw [e] at hs
      refine ⟨_, L', rfl, hbw, ?_, hs.of⟩
      rw [HL.out]
      exact hrow
set_option maxHeartbeats 4000000 in
theorem psnap_any (l : List Ed) (v : Value) (w : World) (hT : IsEds w v l) (hle : l.length ≤ 1000) :
    Calls Try.prog 42 #[v] w fun e w' => StRow 50 w (stepsL 2 l) e w' := by
  obtain ⟨a, cap, rfl, h1, h2, h3, HC⟩ := hT.reads
  obtain ⟨n, hn⟩ : ∃ n, l.length = n := ⟨_, rfl⟩
  have HN : Hid (l.length = n) := hn
  rw [hn] at h1 h3 hle ⊢
  clear hT hn
  go_enter Try.func42, Try.ntmps42
  go_wp2_with fail
  go_loopw [3, 10] (fun r i wr => ∃ (k c : Nat) (L' : List SVt), k ≤ n ∧ c ≤ k * 1001 ∧ i = .int .i64 k ∧ Hid (L'.length = c) ∧ Hid (StP wr L' (sTo 2 l k)) ∧ Below w.heap.size w wr ∧ wr.ownsRow w.heap.size 50 3 r c (recV stV L')) (fun _ i _ => n - (intOf i).toNat)
  case atStart => exact ⟨0, 0, [], Nat.zero_le _, by omega, rfl, rfl, StP.nil _, Below.refl _ _, World.ownsRow_nil _ _ _ _⟩
  case round =>
    obtain ⟨wA, rfl⟩ : ∃ wA, wA = wr := ⟨_, rfl⟩
    obtain ⟨k, c, L', hk, hc, rfl, HL, HS, hbw, hrow⟩ := hrel
    by_cases hlt : k < n
    · have hk1 : Hid (k < l.length) := by show k < _; rw [HN.out]; exact hlt
      have j0 : (k : Int) < (n : Int) := by omega
      obtain ⟨bb, off, rfl, HQ⟩ := HC.out (by have := hk1.out; omega)
      obtain ⟨⟨e0, e1, e2, e3, e4⟩, he⟩ : ∃ x, l[k]'hk1.out = x := ⟨_, rfl⟩
      have HE : Hid (l[k]'hk1.out = (e0, e1, e2, e3, e4)) := he
      have HNx : Hid (sTo 2 l (k + 1) = sTo 2 l k ++ stepOf 2 l (e0, e1, e2, e3, e4)) := by show _ = _; rw [sTo_next 2 l k hk1.out, he]
      obtain ⟨x0, x1, x2, x3, x4⟩ := HQ.out k hk1.out _ hbw
      rw [he] at x0 x1 x2 x3 x4
      simp only at x0 x1 x2 x3 x4
      clear he
      have XE := SBox.new wA 24 #[.int .i64 e0, .int .i64 e1, .int .i64 e2, .int .i64 e3, .int .i64 e4]
      have BE := hbw.alloc hbw.size (.cells #[.int .i64 e0, .int .i64 e1, .int .i64 e2, .int .i64 e3, .int .i64 e4] 24)
      have hrowE := hrow.alloc (.cells #[.int .i64 e0, .int .i64 e1, .int .i64 e2, .int .i64 e3, .int .i64 e4] 24)
      have y0 := XE.cell 0 _ rfl
      have y1 := XE.cell 1 _ rfl
      have y2 := XE.cell 2 _ rfl
      have y3 := XE.cell 3 _ rfl
      have y4 := XE.cell 4 _ rfl
      have HSE : Hid (StP (wA.alloc (.cells #[.int .i64 e0, .int .i64 e1, .int .i64 e2, .int .i64 e3, .int .i64 e4] 24)) L' (sTo 2 l k)) := HS.out.below ((Below.refl _ _).alloc (Nat.le_refl _) _)
      obtain ⟨_, _, rfl⟩ := own_shape hrow
      by_cases d3 : e0 = 3
      · have HO : Hid (stepOf 2 l (e0, e1, e2, e3, e4) = []) := stepOf_23 l _ d3
        have z0 : (e0 == 3) = true := by rw [d3]; rfl
        clear d3
        go_wp2_with fail
        refine ⟨⟨k + 1, c, L', by omega, by omega, by first | go_num | simp, HL, by show StP _ _ _; rw [HNx.out, HO.out, List.append_nil]; exact HSE.out, BE, hrowE⟩, by simp [intOf]; omega⟩
      · have z0 : (e0 == 3) = false := beq_eq_false_iff_ne.2 d3
        have HO : Hid (stepOf 2 l (e0, e1, e2, e3, e4) = (e1, e2, [(e0, e1, e2, e3, e4)]) :: sIn l (e0, e1, e2, e3, e4) n) := by show _ = _; rw [stepOf_2 l _ d3, ← HN.out, sIn_all]; rfl
        clear d3
        go_wp2_with fail
        refine (palone_any e0 e1 e2 e3 e4 _).mono ?_
        rintro e1' w1 ⟨ad, c1, rfl, b1, ho1⟩
        have hs1 := HSE.out.below b1
        have hr1 := owns_below hrowE b1
        have B1 := bel_trans BE b1
        go_wp2_with fail
        refine (pbhS_any _ c _ e1 e2 ad 1 c1 w.heap.size _ hr1 (by have := B1.size; omega) (by omega)).mono ?_
        rintro e2' w3 ⟨r3, rfl, hown3, hg3, hat3⟩
        have hs3 := hs1.push hr1 (e1) (e2) [(e0, e1, e2, e3, e4)] (by simp) ho1 hg3
        have B3 : Below w.heap.size w w3 := B1.grown hg3 (by have := B1.size; omega) (fun j hj => own_far hr1 j hj)
        have X3 : SBox w3 wA.heap.size 24 #[.int .i64 e0, .int .i64 e1, .int .i64 e2, .int .i64 e3, .int .i64 e4] := (hg3.block _ (XE.below b1).lt (block_not_row (XE.below b1) (by decide) hr1)).trans (XE.below b1)
        have hL3 : Hid ((L' ++ [((e1, e2, .slice ad 1 c1) : SVt)]).length = c + 1) := by show _ = _; rw [List.length_append, HL.out]; rfl
        have hs4 : StP w3 (L' ++ [(e1, e2, .slice ad 1 c1)]) (sTo 2 l k ++ ((e1, e2, [(e0, e1, e2, e3, e4)]) :: sIn l (e0, e1, e2, e3, e4) 0)) := hs3
        have hown4 : w3.ownsRow w.heap.size 50 3 r3 (c + 1) (recV stV (L' ++ [(e1, e2, .slice ad 1 c1)])) := by rw [recS_snoc]; exact hown3
        have ne3 : ∀ g, r3.ownBlock = some g → g ≠ wA.heap.size := fun g e e2 => by subst e2; exact block_not_row X3 (by decide) hown3 e.symm
        obtain ⟨M0, hM0⟩ : ∃ M0, L' ++ [((e1, e2, .slice ad 1 c1) : SVt)] = M0 := ⟨_, rfl⟩
        rw [hM0] at hL3 hs4 hown4
        clear hs3 hown3 hg3 hM0 hat3 hs1 hr1 B1 ho1 b1 hrow hrowE HS HSE x0 x1 x2 x3 x4 y0 y1 y2 y3 y4 BE XE
        go_wp2_with fail
        go_loopw [3, 23] (fun r i wq => ∃ (q c' : Nat) (M' : List SVt), q ≤ n ∧ c' ≤ k * 1001 + 1 + q ∧ i = .int .i64 q ∧ Hid (M'.length = c') ∧ Hid (StP wq M' (sTo 2 l k ++ ((e1, e2, [(e0, e1, e2, e3, e4)]) :: sIn l (e0, e1, e2, e3, e4) q))) ∧ Below w.heap.size w wq ∧ SBox wq wA.heap.size 24 #[.int .i64 e0, .int .i64 e1, .int .i64 e2, .int .i64 e3, .int .i64 e4] ∧ (∀ g, r.ownBlock = some g → g ≠ wA.heap.size) ∧ wq.ownsRow w.heap.size 50 3 r c' (recV stV M')) (fun _ i _ => n - (intOf i).toNat)
        case atStart => exact ⟨0, c + 1, M0, Nat.zero_le _, by omega, rfl, hL3, hs4, B3, X3, ne3, hown4⟩
        case round =>
          obtain ⟨q, c', M', hq, hc', rfl, HLq, HSq, hbq, XQ, neq, hrowq⟩ := hrel
          clear X3 hs4 hown4 B3 ne3 hL3
          by_cases hlq : q < n
          · have hq1 : Hid (q < l.length) := by show q < _; rw [HN.out]; exact hlq
            have jq : (q : Int) < (n : Int) := by omega
            obtain ⟨⟨g0, g1, g2, g3, g4⟩, hg⟩ : ∃ x, l[q]'hq1.out = x := ⟨_, rfl⟩
            have HG : Hid (l[q]'hq1.out = (g0, g1, g2, g3, g4)) := hg
            obtain ⟨z0, z1, z2, z3, z4⟩ := HQ.out q hq1.out _ hbq
            rw [hg] at z0 z1 z2 z3 z4
            simp only at z0 z1 z2 z3 z4
            clear hg
            have XG := SBox.new wr 24 #[.int .i64 g0, .int .i64 g1, .int .i64 g2, .int .i64 g3, .int .i64 g4]
            have XR := XQ.alloc (.cells #[.int .i64 g0, .int .i64 g1, .int .i64 g2, .int .i64 g3, .int .i64 g4] 24)
            have BG := hbq.alloc hbq.size (.cells #[.int .i64 g0, .int .i64 g1, .int .i64 g2, .int .i64 g3, .int .i64 g4] 24)
            have hrowG := hrowq.alloc (.cells #[.int .i64 g0, .int .i64 g1, .int .i64 g2, .int .i64 g3, .int .i64 g4] 24)
            have u0 := XG.cell 0 _ rfl
            have u1 := XG.cell 1 _ rfl
            have u2 := XG.cell 2 _ rfl
            have u3 := XG.cell 3 _ rfl
            have u4 := XG.cell 4 _ rfl
            have y0 := XR.cell 0 _ rfl
            have y1 := XR.cell 1 _ rfl
            have y2 := XR.cell 2 _ rfl
            have y3 := XR.cell 3 _ rfl
            have y4 := XR.cell 4 _ rfl
            have HSG : Hid (StP (wr.alloc (.cells #[.int .i64 g0, .int .i64 g1, .int .i64 g2, .int .i64 g3, .int .i64 g4] 24)) M' (sTo 2 l k ++ ((e1, e2, [(e0, e1, e2, e3, e4)]) :: sIn l (e0, e1, e2, e3, e4) q))) := HSq.out.below ((Below.refl _ _).alloc (Nat.le_refl _) _)
            obtain ⟨_, _, rfl⟩ := own_shape hrowq
            by_cases hm : g0 = 3 ∧ g1 = e2
            · have m0 : (g0 == 3) = true := by rw [hm.1]; rfl
              have m1 : (g1 == e2) = true := by rw [hm.2]; exact beq_self_eq_true _
              have HY : Hid (sIn l (e0, e1, e2, e3, e4) (q + 1) = sIn l (e0, e1, e2, e3, e4) q ++ [(e1, g2, [(e0, e1, e2, e3, e4), (g0, g1, g2, g3, g4)])]) := by show _ = _; rw [sIn_yes l _ q hq1.out (by rw [HG.out]; exact hm), HG.out]; rfl
              clear hm
              go_wp2_with fail
              refine (pjoined_any e0 e1 e2 e3 e4 g0 g1 g2 g3 g4 _).mono ?_
              rintro e1' w5 ⟨ad5, c5, rfl, b5, ho5⟩
              have hs5 := HSG.out.below b5
              have hr5 := owns_below hrowG b5
              have B5 := bel_trans BG b5
              go_wp2_with fail
              refine (pbhS_any _ c' _ e1 g2 ad5 2 c5 w.heap.size _ hr5 (by have := B5.size; omega) (by omega)).mono ?_
              rintro e2' w6 ⟨r6, rfl, hown6, hg6, hat6⟩
              have hs6 := hs5.push hr5 (e1) (g2) [(e0, e1, e2, e3, e4), (g0, g1, g2, g3, g4)] (by simp) ho5 hg6
              have B6 : Below w.heap.size w w6 := B5.grown hg6 (by have := B5.size; omega) (fun j hj => own_far hr5 j hj)
              have X6 : SBox w6 wA.heap.size 24 #[.int .i64 e0, .int .i64 e1, .int .i64 e2, .int .i64 e3, .int .i64 e4] := (hg6.block _ (XR.below b5).lt (block_not_row (XR.below b5) (by decide) hr5)).trans (XR.below b5)
              go_wp2_with fail
              refine ⟨⟨q + 1, c' + 1, M' ++ [(e1, g2, .slice ad5 2 c5)], by omega, by omega, by first | go_num | simp, by show _ = _; rw [List.length_append, HLq.out]; rfl, by show StP _ _ _; rw [HY.out, ← List.cons_append, ← List.append_assoc]; exact hs6, B6, X6, fun g e e2 => by subst e2; exact block_not_row X6 (by decide) hown6 e.symm, by rw [recS_snoc]; exact hown6⟩, by simp [intOf]; omega⟩
            · have HY : Hid (sIn l (e0, e1, e2, e3, e4) (q + 1) = sIn l (e0, e1, e2, e3, e4) q) := sIn_no l _ q hq1.out (by rw [HG.out]; exact hm)
              have HF : Hid (StP (wr.alloc (.cells #[.int .i64 g0, .int .i64 g1, .int .i64 g2, .int .i64 g3, .int .i64 g4] 24)) M' (sTo 2 l k ++ ((e1, e2, [(e0, e1, e2, e3, e4)]) :: sIn l (e0, e1, e2, e3, e4) (q + 1)))) := by show StP _ _ _; rw [HY.out]; exact HSG.out
              by_cases m3 : g0 = 3
              · have m0 : (g0 == 3) = true := by rw [m3]; rfl
                have m1 : (g1 == e2) = false := beq_eq_false_iff_ne.2 (fun hh => hm ⟨m3, hh⟩)
                clear hm m3
                go_wp2_with fail
                refine ⟨⟨q + 1, c', M', by omega, by omega, by first | go_num | simp, HLq, HF, BG, XR, neq, hrowG⟩, by simp [intOf]; omega⟩
              · have m0 : (g0 == 3) = false := beq_eq_false_iff_ne.2 m3
                clear hm m3
                go_wp2_with fail
                refine ⟨⟨q + 1, c', M', by omega, by omega, by first | go_num | simp, HLq, HF, BG, XR, neq, hrowG⟩, by simp [intOf]; omega⟩
          · obtain rfl : q = n := by omega
            have jq : ¬ (q : Int) < (q : Int) := by omega
            go_wp2_with fail
            refine ⟨⟨k + 1, c', M', by omega, by omega, by first | go_num | simp, HLq, by show StP _ _ _; rw [HNx.out, HO.out]; exact HSq.out, hbq, hrowq⟩, by simp [intOf]; omega⟩
    · obtain rfl : k = n := by omega
      have jq : ¬ (k : Int) < (k : Int) := by omega
      go_wp2_with fail
      go_ret
      have e : sTo 2 l k = stepsL 2 l := by rw [← HN.out, sTo_all]
      have hs := HS.out
      rw [e] at hs
      refine ⟨_, L', rfl, hbw, ?_, hs.of⟩
      rw [HL.out]
      exact hrow
set_option maxHeartbeats 1000000 in
theorem psteps10_any (level : Int) (l : List Ed) (v : Value) (w : World) (hT : IsEds w v l) (hle : l.length ≤ 1000) :
    Calls Try.prog 21 #[.int .i64 level, v] w fun e w' => StRow 50 w (stepsL level l) e w' := by
  have C1 := pserial_any l v w hT hle
  have C2 := psnap_any l v w hT hle
  obtain ⟨a, cap, rfl, _⟩ := hT.reads
  by_cases h1 : level = 1
  · subst h1
    go_enter Try.func21, Try.ntmps21
    go_wp2_with fail
    refine C1.mono ?_
    rintro e w1 ⟨v, L', rfl, b1, h2, h3⟩
    go_wp2_with fail
    go_ret
    exact ⟨v, L', rfl, b1, h2, h3⟩
  · have k1 : (level == 1) = false := beq_eq_false_iff_ne.2 h1
    by_cases h2 : level = 2
    · subst h2
      go_enter Try.func21, Try.ntmps21
      go_wp2_with fail
      refine C2.mono ?_
      rintro e w1 ⟨v, L', rfl, b1, h2, h3⟩
      go_wp2_with fail
      go_ret
      exact ⟨v, L', rfl, b1, h2, h3⟩
    · have k2 : (level == 2) = false := beq_eq_false_iff_ne.2 h2
      have e : stepsL level l = [] := by
        unfold stepsL
        rw [List.flatMap_eq_nil_iff]
        exact fun x _ => stepOf_o level l x h1 h2
      rw [e]
      clear h1 h2
      go_enter Try.func21, Try.ntmps21
      go_wp2_with fail
      go_ret
      exact ⟨_, [], rfl, Below.refl _ _, World.ownsRow_nil _ _ _ _, (StP.nil _).of⟩
end Go.Proofs.Yteehpkkkagdckaa
