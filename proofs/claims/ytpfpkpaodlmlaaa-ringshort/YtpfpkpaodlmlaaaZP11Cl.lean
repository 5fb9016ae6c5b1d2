/-
  What ring.Closed and ring.ends answer.
-/
import Derived.Test.YtpfpkpaodlmlaaaZP11Wv
namespace Go.Proofs.Ytpfpkpaodlmlaaa
set_option maxRecDepth 100000
open Go.RowKit Go.Maps
set_option linter.unusedVariables false
attribute [local go_sem] ba_size
def prevI (n k : Nat) : Nat := if k = 0 then n - 1 else k - 1
theorem meet_prev (l : List Stp) (k : Nat) (hk : k < l.length) : meetB l (prevI l.length k) = decide ((stA l (prevI l.length k)).2.1 = (stA l k).1) := by
  unfold meetB stA
  have e : nxtI l.length (prevI l.length k) = k := by
    unfold nxtI prevI
    by_cases h : k = 0
    · rw [if_pos h, if_pos (by omega), h]
    · rw [if_neg h, if_neg (by omega)]; omega
  rw [e]
theorem prev_all (l : List Stp) (h : ∀ k, k < l.length → meetB l (prevI l.length k) = true) (h0 : 0 < l.length) : clB l = true := by
  rw [cl_yes l (fun i hi => ?_), decide_eq_true h0]
  have e : prevI l.length (nxtI l.length i) = i := by
    unfold nxtI prevI
    by_cases h : i + 1 = l.length
    · rw [if_pos h, if_pos rfl]; omega
    · rw [if_neg h, if_neg (by omega)]; omega
  have hn : nxtI l.length i < l.length := by unfold nxtI; split <;> omega
  have := h _ hn
  rw [e] at this
  exact this
set_option maxHeartbeats 4000000 in
theorem pclosed11_any (l : List Stp) (vl : Value) (w : World) (hT : IsSts w vl l) : Calls Try.prog 20 #[vl] w fun e w' => e = .returned (.bool (clB l)) ∧ Below w.heap.size w w' := by
  obtain ⟨al, cl, rfl, p1, p2, p3, HL⟩ := hT.reads
  obtain ⟨nl, hnl⟩ : ∃ nl, l.length = nl := ⟨_, rfl⟩
  have HNl := Lib.hid hnl
  have HC : Hid (∀ k, k < nl → ∃ b off, al = some ⟨b, off, none⟩ ∧ w.cell? ⟨b, off + k * 3 + 1, none⟩ = some (.int .i64 (stA l k).2.1)) := fun k hk => by
    obtain ⟨a', c', e1, _, _, _, HC⟩ := sts_at hT
    obtain ⟨b, off, e2, _, e3⟩ := HC.out k (by omega)
    obtain ⟨rfl, rfl⟩ : al = a' ∧ cl = c' := by simpa using e1
    exact ⟨b, off, e2, e3⟩
  rw [hnl] at p1 p3
  rw [hnl]
  clear hT
  by_cases h0 : nl = 0
  · have HE : Hid (clB l = false) := by show _ = _; unfold clB; rw [hnl, h0]; rfl
    rw [HE.out]
    subst h0
    clear hnl
    go_enter Try.func20, Try.ntmps20
    go_wp2_with fail
    go_ret
    exact ⟨rfl, Below.refl _ _⟩
  · have e0 : ((nl : Int) == 0) = false := by simp; omega
    obtain ⟨bL, oL, rfl, cl1⟩ := HC.out (nl - 1) (by omega)
    have zz : IntKind.i64.wrap ((nl : Int) - 1) = ((nl - 1 : Nat) : Int) := by rw [IntKind.wrap_i64]; omega
    have jz : ((nl - 1 : Nat) : Int) < (nl : Int) := by omega
    obtain ⟨ez, hez⟩ : ∃ ez, nl - 1 = ez := ⟨_, rfl⟩
    have hez2 : (nl : Int) - 1 = (ez : Int) := by omega
    rw [hez] at cl1 zz jz
    obtain ⟨rr, hrr⟩ : ∃ rr, clB l = rr := ⟨_, rfl⟩
    rw [hrr]
    have HRR := Lib.hid hrr
    have Hpz : Hid (prevI nl 0 = ez) := by show _ = _; unfold prevI; rw [if_pos rfl]; exact hez
    obtain ⟨y0, hy0⟩ : ∃ y, (stA l ez).2.1 = y := ⟨_, rfl⟩
    have Hy0 := Lib.hid hy0
    rw [hy0] at cl1
    clear hnl hez hrr hy0 HC
    go_enter Try.func20, Try.ntmps20
    go_wp2_with fail
    go_loopw [3, 18] (fun ev i wr => ∃ k : Nat, k ≤ nl ∧ i = .int .i64 (k : Int) ∧ ev = .int .i64 (stA l (prevI nl k)).2.1 ∧ Hid (∀ j, j < k → meetB l (prevI nl j) = true) ∧ Below w.heap.size w wr) (fun _ i _ => nl - (intOf i).toNat)
    case atStart => exact ⟨0, Nat.zero_le _, rfl, by rw [Hpz.out, Hy0.out], (fun j hj => by omega), Below.refl _ _⟩
    case round =>
      obtain ⟨k, hk, rfl, rfl, HA, hB⟩ := hrel
      by_cases hlt : k < nl
      · have j0 : (k : Int) < (nl : Int) := by omega
        have hkl : k < l.length := by have := HNl.out; omega
        obtain ⟨bL', oL', ea, u, hE, HQ⟩ := HL.out k hkl
        obtain ⟨rfl, rfl⟩ : bL = bL' ∧ oL = oL' := by simpa using ea
        obtain ⟨c0, c1, c2⟩ := HQ wr hB
        have es := stA_at l k hkl
        rw [← es] at c0 c1
        obtain ⟨ua, uc, rfl, _⟩ := hE.some_at
        have hm := meet_prev l k hkl
        rw [HNl.out] at hm
        have Hp1 : Hid (prevI nl (k + 1) = k) := by show _ = _; unfold prevI; rw [if_neg (by omega)]; omega
        obtain ⟨x, hx⟩ : ∃ x, (stA l k).1 = x := ⟨_, rfl⟩
        obtain ⟨y, hy⟩ : ∃ y, (stA l k).2.1 = y := ⟨_, rfl⟩
        obtain ⟨pv, hpv⟩ : ∃ pv, (stA l (prevI nl k)).2.1 = pv := ⟨_, rfl⟩
        have Hy := Lib.hid hy
        obtain ⟨un, hun⟩ : ∃ un, l[k].2.2.length = un := ⟨_, rfl⟩
        rw [hun] at c2
        rw [hx] at c0 hm
        rw [hy] at c1
        rw [hpv] at hm ⊢
        have Hm := Lib.hid hm
        have XS := SBox.new wr tSt #[.int .i64 x, .int .i64 y, .slice ua un uc]
        have s0 := XS.cell 0 _ rfl
        have s1 := XS.cell 1 _ rfl
        have BE := hB.alloc hB.size (.cells #[.int .i64 x, .int .i64 y, .slice ua un uc] tSt)
        clear es hx hy hpv hun hm HQ hE ea XS
        by_cases hq : pv = x
        · subst hq
          have HA2 : Hid (∀ j, j < k + 1 → meetB l (prevI nl j) = true) := fun j hj => by
            rcases Nat.lt_succ_iff_lt_or_eq.1 hj with h | rfl
            · exact HA.out j h
            · rw [Hm.out]; exact decide_eq_true rfl
          go_wp2_with fail
          refine ⟨⟨k + 1, by omega, by first | go_num | simp, by rw [Hp1.out, Hy.out], HA2, BE⟩, by simp [intOf]; omega⟩
        · have hq2 : ¬ x = pv := fun e => hq e.symm
          have eq : (x != pv) = true := by simp [hq2]
          have HF : Hid (rr = false) := by
            show _ = _
            rw [← HRR.out]
            refine cl_no l (prevI nl k) ?_ (by rw [Hm.out]; exact decide_eq_false hq)
            have := HNl.out
            unfold prevI; split <;> omega
          go_wp2_with fail
          go_ret
          rw [HF.out]
          exact ⟨rfl, BE⟩
      · obtain rfl : nl = k := by omega
        have jq : ¬ (nl : Int) < (nl : Int) := by omega
        have HF : Hid (rr = true) := by
          show _ = _
          rw [← HRR.out]
          have hh := HNl.out
          exact prev_all l (fun k hk => by rw [hh]; exact HA.out k (by omega)) (by omega)
        go_wp2_with fail
        go_ret
        rw [HF.out]
        exact ⟨rfl, hB⟩
/-- The numbers of steps, in a row. -/
def endsK (l : List Stp) (k : Nat) : List Int := (l.take k).flatMap fun s => [s.1, s.2.1]
theorem endsK_next (l : List Stp) (k : Nat) (hk : k < l.length) : endsK l (k + 1) = endsK l k ++ [(stA l k).1, (stA l k).2.1] := by
  unfold endsK
  rw [List.take_succ_eq_append_getElem hk, List.flatMap_append, stA_at l k hk]
  simp
theorem endsK_len (l : List Stp) (k : Nat) (hk : k ≤ l.length) : (endsK l k).length = 2 * k := by
  induction k with
  | zero => rfl
  | succ k ih => rw [endsK_next l k (by omega), List.length_append, ih (by omega)]; simp; omega
set_option maxHeartbeats 4000000 in
theorem pends11_any (l : List Stp) (vl : Value) (w : World) (hT : IsSts w vl l) (hl : l.length ≤ 3518437208780) : Calls Try.prog 32 #[vl] w fun e w' => NRow w (nodesL l) e w' := by
  obtain ⟨i0, hi, hz0, hz1, hz2⟩ := info_parts int_info
  obtain ⟨al, cl, rfl, p1, p2, p3, HL⟩ := hT.reads
  obtain ⟨nl, hnl⟩ : ∃ nl, l.length = nl := ⟨_, rfl⟩
  have HNl := Lib.hid hnl
  rw [hnl] at p1 p3 hl
  rw [hnl]
  clear hT hnl
  go_enter Try.func32, Try.ntmps32
  go_wp2_with fail
  go_loopw [3, 8] (fun v i wr => ∃ k : Nat, k ≤ nl ∧ i = .int .i64 (k : Int) ∧ Hid (wr.ownsRow w.heap.size 3 1 v (2 * k) (iV (endsK l k))) ∧ Below w.heap.size w wr) (fun _ i _ => nl - (intOf i).toNat)
  case atStart => exact ⟨0, Nat.zero_le _, rfl, World.ownsRow_nil _ _ _ _, Below.refl _ _⟩
  case round =>
    obtain ⟨k, hk, rfl, HR, hB⟩ := hrel
    by_cases hlt : k < nl
    · have j0 : (k : Int) < (nl : Int) := by omega
      have hkl : k < l.length := by have := HNl.out; omega
      obtain ⟨bL, oL, rfl, u, hE, HQ⟩ := HL.out k hkl
      obtain ⟨c0, c1, c2⟩ := HQ wr hB
      have es := stA_at l k hkl
      rw [← es] at c0 c1
      obtain ⟨ua, uc, rfl, _⟩ := hE.some_at
      have hx2 := endsK_next l k hkl
      obtain ⟨x, hx⟩ : ∃ x, (stA l k).1 = x := ⟨_, rfl⟩
      obtain ⟨y, hy⟩ : ∃ y, (stA l k).2.1 = y := ⟨_, rfl⟩
      obtain ⟨un, hun⟩ : ∃ un, l[k].2.2.length = un := ⟨_, rfl⟩
      rw [hun] at c2
      rw [hx] at c0
      rw [hy] at c1
      rw [hx, hy] at hx2
      have Hx2 := Lib.hid hx2
      have XS := SBox.new wr tSt #[.int .i64 x, .int .i64 y, .slice ua un uc]
      have s0 := XS.cell 0 _ rfl
      have s1 := XS.cell 1 _ rfl
      have BE := hB.alloc hB.size (.cells #[.int .i64 x, .int .i64 y, .slice ua un uc] tSt)
      obtain ⟨wE, hwE⟩ : ∃ wE, wr.alloc (.cells #[.int .i64 x, .int .i64 y, .slice ua un uc] tSt) = wE := ⟨_, rfl⟩
      have hrow := HR.out.alloc (.cells #[.int .i64 x, .int .i64 y, .slice ua un uc] tSt)
      rw [hwE] at hrow BE s0 s1
      obtain ⟨bs, hbs⟩ : ∃ bs, wr.heap.size = bs := ⟨_, rfl⟩
      rw [hbs] at s0 s1
      obtain ⟨ad, cc, hsh⟩ := own_shape11 HR.out
      subst hsh
      have hsE := BE.size
      clear es hx hy hun hx2 HQ hE XS
      go_wp2_with (at_builtin; refine wpList_append_own_at _ rfl _ _ 22 rfl w.heap.size 3 i0 (.int .i64 0) 1 8 Try.underlying22 hi hz0 hz1 hz2 rfl (by decide) (.slice ad (2 * k) cc) _ _ rfl (hrow.alloc _) ⟨wE.heap.size, 0, none⟩ 2 2 [.int .i64 x, .int .i64 y] rfl rfl ?a1 ?a2 ?a3 ?a4 ?a5 ?_)
      case a1 => intro j u hj; match j, hj with
        | 0, hj => simp at hj; subst hj; simp [Addr.add]
        | 1, hj => simp at hj; subst hj; simp [Addr.add]
      case a2 => intro u hu; simp at hu; rcases hu with rfl | rfl <;> rfl
      case a3 => unfold maxLen; omega
      case a4 => omega
      case a5 => simp; omega
      intro r3 w3 hown3 hg3 _ hat3
      have B3 : Below w.heap.size w w3 := (BE.alloc hsE _).grown hg3 (by simp; omega) (fun j hj => (hrow.lt j hj).1)
      have HR3 : Hid (w3.ownsRow w.heap.size 3 1 r3 (2 * (k + 1)) (iV (endsK l (k + 1)))) := by
        show World.ownsRow _ _ _ _ _ _ _
        rw [Hx2.out, iV_app, show 2 * (k + 1) = 2 * k + 2 by omega]
        exact hown3
      clear hown3 hat3 hg3
      go_wp2_with fail
      refine ⟨⟨k + 1, by omega, by first | go_num | simp, HR3, B3⟩, by simp [intOf]; omega⟩
    · obtain rfl : nl = k := by omega
      have jq : ¬ (nl : Int) < (nl : Int) := by omega
      have HE : Hid (endsK l nl = nodesL l) := by show _ = _; rw [← HNl.out]; unfold endsK nodesL; rw [List.take_length]
      have HLn : Hid ((nodesL l).length = 2 * nl) := by
        show _ = _
        rw [← HE.out, ← HNl.out]
        exact endsK_len l l.length (Nat.le_refl _)
      go_wp2_with fail
      go_ret
      refine ⟨_, rfl, hB, ?_⟩
      rw [HLn.out, ← HE.out]
      exact HR.out
end Go.Proofs.Ytpfpkpaodlmlaaa
