/-
  What ring.Forward answers.
-/
import Derived.Test.YtpfpkpaodlmlaaaZP11Wv
import Derived.Test.YtpfpkpaodlmlaaaGJ
namespace Go.Proofs.Ytpfpkpaodlmlaaa
set_option maxRecDepth 100000
open Go.RowKit Go.Maps
set_option linter.unusedVariables false
attribute [local go_sem] ba_size
/-- The last place of a number among the first k. -/
def pmF (o : List Int) : Nat → Int → Option Nat
  | 0, _ => none
  | k + 1, x => if x = o.getD k 0 then some k else pmF o k x
theorem pmF_dom (o : List Int) (x : Int) : ∀ k, k ≤ o.length → ((pmF o k x).isSome = true ↔ x ∈ o.take k)
  | 0, _ => by simp [pmF]
  | k + 1, h => by
    rw [pmF, List.take_succ_eq_append_getElem (by omega), List.mem_append, List.mem_singleton, ← pmF_dom o x k (by omega)]
    have e : o.getD k 0 = o[k]'(by omega) := by simp [show k < o.length by omega]
    rw [e]
    by_cases hx : x = o[k]'(by omega)
    · rw [if_pos hx]; simp [hx]
    · rw [if_neg hx]; simp [hx]
theorem pmF_val (o : List Int) (x : Int) : ∀ k p, k ≤ o.length → pmF o k x = some p → p < k ∧ o.getD p 0 = x
  | 0, p, _, h => by cases h
  | k + 1, p, hk, h => by
    rw [pmF] at h
    by_cases e : x = o.getD k 0
    · rw [if_pos e] at h; cases h; exact ⟨by omega, e.symm⟩
    · rw [if_neg e] at h
      obtain ⟨a, b⟩ := pmF_val o x k p (by omega) h
      exact ⟨by omega, b⟩
theorem pmF_pl (o : List Int) (hn : o.Nodup) (x : Int) : pmF o o.length x = plL o x := by
  cases h : pmF o o.length x with
  | none =>
    symm
    rw [plL_none]
    intro j hj e
    have := (pmF_dom o x o.length (Nat.le_refl _)).2 (by rw [List.take_length, ← e]; simp [hj])
    rw [h] at this
    cases this
  | some p =>
    symm
    obtain ⟨a, b⟩ := pmF_val o x _ p (Nat.le_refl _) h
    rw [plL_some]
    refine ⟨a, b, fun j hj e => ?_⟩
    have h1 : o[j]'(by omega) = o[p] := by
      have e1 : o.getD j 0 = o[j]'(by omega) := by simp [show j < o.length by omega]
      have e2 : o.getD p 0 = o[p] := by simp [a]
      rw [← e1, ← e2, e, b]
    exact (List.pairwise_iff_getElem.1 (List.nodup_iff_pairwise_ne.1 hn)) j p (by omega) a hj h1
theorem dup_less (o N : List Int) (h : NumsOf o N) (hd : ¬ o.Nodup) : N.length < o.length := by
  have : ∃ i j, ∃ hi : i < o.length, ∃ hj : j < o.length, i < j ∧ o[i] = o[j] := by
    apply Classical.byContradiction
    intro hno
    apply hd
    rw [List.nodup_iff_pairwise_ne, List.pairwise_iff_getElem]
    intro i j hi hj hij e
    exact hno ⟨i, j, hi, hj, hij, e⟩
  obtain ⟨i, j, hi, hj, hij, e⟩ := this
  have hsub : N.length ≤ (o.eraseIdx j).length := List.Nodup.length_le_of_subset h.nodup fun x hx => by
    obtain ⟨q, hq, rfl⟩ := List.getElem_of_mem ((h.2.1 x).1 hx)
    rw [List.mem_eraseIdx_iff_getElem]
    by_cases hqj : q = j
    · subst hqj; exact ⟨i, hi, by omega, e⟩
    · exact ⟨q, hq, hqj, rfl⟩
  rw [List.length_eraseIdx, if_pos hj] at hsub
  omega
theorem one_of_nodup (o : List Int) (l : List Stp) (hd : ¬ o.Nodup) : fwdB o l = false := by
  apply Classical.byContradiction
  intro hf
  apply hd
  have hf : fwdB o l = true := by cases h : fwdB o l with | true => rfl | false => exact absurd h hf
  unfold fwdB at hf
  rw [Bool.and_eq_true, List.all_eq_true] at hf
  rw [List.nodup_iff_pairwise_ne, List.pairwise_iff_getElem]
  intro i j hi hj hij e
  have := hf.1 j (List.mem_range.2 hj)
  unfold oneEach at this
  rw [decide_eq_true_eq, plL_some] at this
  refine this.2.2 i hij ?_
  simp [hi, hj, e]
theorem all_of_nodup (o : List Int) (hn : o.Nodup) (i : Nat) (hi : i < o.length) : oneEach o i = true := by
  unfold oneEach
  rw [decide_eq_true_eq, plL_some]
  refine ⟨hi, rfl, fun j hj e => ?_⟩
  have h1 : o[j]'(by omega) = o[i] := by
    have e1 : o.getD j 0 = o[j]'(by omega) := by simp [show j < o.length by omega]
    have e2 : o.getD i 0 = o[i] := by simp [hi]
    rw [← e1, ← e2, e]
  exact (List.pairwise_iff_getElem.1 (List.nodup_iff_pairwise_ne.1 hn)) j i (by omega) hi hj h1
def pmV (o : List Int) (k : Nat) : Int → Option Value := fun x => (pmF o k x).map fun (d : Nat) => Value.int .i64 (d : Int)
theorem pmV_next (o : List Int) (k : Nat) : pmV o (k + 1) = updV (pmV o k) (o.getD k 0) (.int .i64 (k : Int)) := by
  funext x
  simp only [pmV, updV, pmF]
  by_cases e : x = o.getD k 0
  · rw [if_pos e, if_pos e]; rfl
  · rw [if_neg e, if_neg e]
set_option maxHeartbeats 8000000 in
theorem pforward11_any (o : List Int) (l : List Stp) (vo vl : Value) (w : World) (hO : IsInts w vo o) (oko : ∀ x ∈ o, okS x) (hT : IsSts w vl l) (okl : ∀ x ∈ l, goodSt x) (ho : o.length ≤ 17592186043904) :
    Calls Try.prog 15 #[vo, vl] w fun e w' => e = .returned (.bool (fwdB o l)) ∧ Below w.heap.size w w' := by
  have hmm := @run_makeMap Try.prog
  obtain ⟨ao, co, rfl, o1, o2, o3, HOc⟩ := IsInts.reads hO
  obtain ⟨al, cl, rfl, p1, p2, p3, HL⟩ := hT.reads
  have Hoko := Lib.hid oko
  have Hokl : Hid (∀ i, i < l.length → I64 (stA l i).1 ∧ I64 (stA l i).2.1) := fun i hi => ⟨(okl _ (stA_mem l i hi)).1, (okl _ (stA_mem l i hi)).2.1⟩
  have HNu := Lib.hid (nums_of o)
  obtain ⟨N, hN⟩ : ∃ N, Lib.compact (o.mergeSort fun x y => decide (x ≤ y)) = N := ⟨_, rfl⟩
  rw [hN] at HNu
  obtain ⟨no, hno⟩ : ∃ no, o.length = no := ⟨_, rfl⟩
  have HNo := Lib.hid hno
  obtain ⟨nl, hnl⟩ : ∃ nl, l.length = nl := ⟨_, rfl⟩
  have HNl := Lib.hid hnl
  rw [hno] at o1 o3 ho
  rw [hnl] at p1 p3
  rw [hno, hnl]
  obtain ⟨rr, hrr⟩ : ∃ rr, fwdB o l = rr := ⟨_, rfl⟩
  rw [hrr]
  have HRR := Lib.hid hrr
  obtain ⟨b0, hb0⟩ : ∃ b0, w.heap.size = b0 := ⟨_, rfl⟩
  have Hb0 := Lib.hid hb0
  obtain ⟨w1, hw1⟩ : ∃ w1, w.alloc (.map #[] 0) = w1 := ⟨_, rfl⟩
  have b1 : Below w.heap.size w w1 := by rw [← hw1]; exact (Below.refl _ _).alloc (Nat.le_refl _) _
  have v1 : VMap w1 b0 0 (pmV o 0) := by rw [← hw1, ← hb0]; exact VMap.made w
  have Hb1 := Lib.hid b1
  have Hv1 := Lib.hid v1
  clear hO hT oko okl hN hno hnl hrr b1 v1
  go_enter Try.func15, Try.ntmps15
  go_wp2_with fail
  go_loopw [17] (fun i wr => ∃ k : Nat, k ≤ no ∧ i = .int .i64 (k : Int) ∧ Hid (VMap wr b0 k (pmV o k)) ∧ Hid (w1.grownBy wr (some b0))) (fun i _ => no - (intOf i).toNat)
  case atStart => exact ⟨0, Nat.zero_le _, rfl, Hv1, World.grownBy.refl _ _⟩
  case round =>
    obtain ⟨k, hk, rfl, HV, HG⟩ := hrel
    have HB : Hid (Below w.heap.size w wr) := Hb1.out.grown HG.out (by have := Hb1.out.size; omega) (fun j hj => by have := Option.some.inj hj; have := Hb0.out; omega)
    by_cases hlt : k < no
    · have j0 : (k : Int) < (no : Int) := by omega
      have hko : k < o.length := by have := HNo.out; omega
      obtain ⟨bb, off, rfl, HQ⟩ := HOc.out (by omega)
      have c0 := HQ.out k hko wr HB.out
      have hI : I64 (o.getD k 0) := Hoko.out _ (by rw [getD_at o 0 k hko]; exact List.getElem_mem hko)
      have HNx := Lib.hid (pmV_next o k)
      obtain ⟨y, hy⟩ : ∃ y, o.getD k 0 = y := ⟨_, rfl⟩
      rw [hy] at c0 hI HNx
      have hV := HV.out
      clear hy
      go_wp2_with (at_mapUpdate; refine wpl_store _ rfl _ _ _ tMM rfl 3 Try.underlying56 b0 k _ rfl hV (by omega) y hI rfl (.int .i64 (k : Int)) rfl ?_; intro w2 hm2 hg2)
      have HV2 : Hid (VMap w2 b0 (k + 1) (pmV o (k + 1))) := by show VMap _ _ _ _; rw [HNx.out]; exact hm2
      have HG2 : Hid (w1.grownBy w2 (some b0)) := HG.out.trans hg2
      clear hm2 hg2 hV
      go_wp2_with fail
      refine ⟨⟨k + 1, by omega, by first | go_num | simp, HV2, HG2⟩, by simp [intOf]; omega⟩
    · obtain rfl : no = k := by omega
      have jq : ¬ (no : Int) < (no : Int) := by omega
      have hV := HV.out
      have hks : ∀ t, t ∈ N ↔ (pmV o no t).isSome = true := fun t => by
        unfold pmV
        rw [Option.isSome_map, HNu.out.2.1 t, pmF_dom o t no (by have := HNo.out; omega), ← HNo.out, List.take_length]
      have hNl := HNu.out.2.2
      rw [HNo.out] at hNl
      by_cases hd : o.Nodup
      · have hNe : N.length = no := by
          rw [← HNo.out]
          exact nodup_perm HNu.out.nodup hd HNu.out.2.1
        have hnn : ¬ (N.length : Int) < (no : Int) := by omega
        have HPm : Hid (∀ x, pmV o no x = (plL o x).map fun (d : Nat) => Value.int .i64 (d : Int)) := fun x => by unfold pmV; rw [← HNo.out, pmF_pl o hd x]
        have Hall : Hid (∀ i, i < o.length → oneEach o i = true) := all_of_nodup o hd
        have Hnd := HNu.out.nodup
        obtain ⟨wB, hwB⟩ : ∃ wB, wB = wr := ⟨_, rfl⟩
        have HVB : Hid (VMap wB b0 no (pmV o no)) := by rw [hwB]; exact HV
        have HBB : Hid (Below w.heap.size w wB) := by rw [hwB]; exact HB
        subst hwB
        go_wp2_with (at_len; refine wpl_len _ rfl _ tMM rfl 3 Try.underlying56 b0 _ _ rfl hV N Hnd hks ?_)
        clear hV HV HB HG hks Hnd hNl hNe hd
        go_loopw [33] (fun i wr => ∃ k : Nat, k ≤ nl ∧ i = .int .i64 (k : Int) ∧ Hid (∀ j (hj : j < l.length), j < k → stepOk o l[j] = true) ∧ Hid (Below wB.heap.size wB wr)) (fun i _ => nl - (intOf i).toNat)
        case atStart => exact ⟨0, Nat.zero_le _, rfl, (fun j hj h => by omega), Below.refl _ _⟩
        case round =>
          obtain ⟨k, hk, rfl, HA, HBk⟩ := hrel
          have hBk := bel_trans HBB.out HBk.out
          by_cases hlt : k < nl
          · have j0 : (k : Int) < (nl : Int) := by omega
            have hkl : k < l.length := by have := HNl.out; omega
            obtain ⟨bL, oL, rfl, u, hE, HQ⟩ := HL.out k hkl
            obtain ⟨c0, c1, c2⟩ := HQ wr hBk
            have es := stA_at l k hkl
            rw [← es] at c0 c1
            obtain ⟨ua, uc, rfl, _⟩ := hE.some_at
            obtain ⟨un, hun⟩ : ∃ un, l[k].2.2.length = un := ⟨_, rfl⟩
            rw [hun] at c2
            obtain ⟨hIx, hIy⟩ := Hokl.out k hkl
            have Hok : Hid (stepOk o l[k] = okOf (plL o (stA l k).1) (plL o (stA l k).2.1)) := by show _ = _; rw [es]; rfl
            have HNx : Hid (stepOk o l[k] = true → ∀ j (hj : j < l.length), j < k + 1 → stepOk o l[j] = true) := fun hh j hj hjk => by
              rcases Nat.lt_succ_iff_lt_or_eq.1 hjk with h | h
              · exact HA.out j hj h
              · subst h; exact hh
            have HNo' : Hid (stepOk o l[k] = false → rr = false) := fun hh => by rw [← HRR.out]; exact fwd_no2 o l k hkl hh
            have hp1 := HPm.out (stA l k).1
            have hp2 := HPm.out (stA l k).2.1
            obtain ⟨x, hx⟩ : ∃ x, (stA l k).1 = x := ⟨_, rfl⟩
            obtain ⟨y, hy⟩ : ∃ y, (stA l k).2.1 = y := ⟨_, rfl⟩
            rw [hx] at c0 hIx hp1 Hok
            rw [hy] at c1 hIy hp2 Hok
            have BE := hBk.alloc hBk.size (.cells #[.int .i64 x, .int .i64 y, .slice ua un uc] tSt)
            have HBE : Hid (Below wB.heap.size wB (wr.alloc (.cells #[.int .i64 x, .int .i64 y, .slice ua un uc] tSt))) := bel_trans HBk.out ((Below.refl _ wr).alloc (Nat.le_refl _) _)
            have XS := SBox.new wr tSt #[.int .i64 x, .int .i64 y, .slice ua un uc]
            have s0 := XS.cell 0 _ rfl
            have s1 := XS.cell 1 _ rfl
            have hVE := HVB.out.bel HBE.out HVB.out.lt
            obtain ⟨oa, hoa⟩ : ∃ oa, plL o x = oa := ⟨_, rfl⟩
            obtain ⟨ob, hob⟩ : ∃ ob, plL o y = ob := ⟨_, rfl⟩
            rw [hoa] at hp1 Hok
            rw [hob] at hp2 Hok
            obtain ⟨va, hva, hia⟩ : ∃ va : Int, (pmV o no x).getD (.int .i64 0) = .int .i64 va ∧ (∀ a, oa = some a → va = (a : Int)) := by
              rw [hp1]
              cases oa with
              | none => exact ⟨0, rfl, fun a h => by cases h⟩
              | some a => exact ⟨a, rfl, fun a' h => by cases h; rfl⟩
            obtain ⟨vb, hvb, hib⟩ : ∃ vb : Int, (pmV o no y).getD (.int .i64 0) = .int .i64 vb ∧ (∀ a, ob = some a → vb = (a : Int)) := by
              rw [hp2]
              cases ob with
              | none => exact ⟨0, rfl, fun a h => by cases h⟩
              | some a => exact ⟨a, rfl, fun a' h => by cases h; rfl⟩
            have hsa : (pmV o no x).isSome = oa.isSome := by rw [hp1, Option.isSome_map]
            have hsb : (pmV o no y).isSome = ob.isSome := by rw [hp2, Option.isSome_map]
            clear es hx hy hun HQ hE XS hp1 hp2 hoa hob
            cases oa with
            | none =>
              cases ob with
              | none =>
                clear hia hib
                go_wp2_with (first
                  | (at_lookup; refine wpl_look_ok _ rfl _ _ tMM rfl 3 Try.underlying56 (zeroI _) b0 _ _ rfl hVE x hIx rfl _ hva false hsa ?_)
                  | (at_lookup; refine wpl_look_ok _ rfl _ _ tMM rfl 3 Try.underlying56 (zeroI _) b0 _ _ rfl hVE y hIy rfl _ hvb false hsb ?_))
                refine ⟨⟨k + 1, by omega, by first | go_num | simp, HNx.out (by rw [Hok.out]; rfl), HBE⟩, by simp [intOf]; omega⟩
              | some b =>
                clear hia hib
                go_wp2_with (first
                  | (at_lookup; refine wpl_look_ok _ rfl _ _ tMM rfl 3 Try.underlying56 (zeroI _) b0 _ _ rfl hVE x hIx rfl _ hva false hsa ?_)
                  | (at_lookup; refine wpl_look_ok _ rfl _ _ tMM rfl 3 Try.underlying56 (zeroI _) b0 _ _ rfl hVE y hIy rfl _ hvb true hsb ?_))
                refine ⟨⟨k + 1, by omega, by first | go_num | simp, HNx.out (by rw [Hok.out]; rfl), HBE⟩, by simp [intOf]; omega⟩
            | some a =>
              have ea := hia a rfl
              subst ea
              cases ob with
              | none =>
                clear hia hib
                go_wp2_with (first
                  | (at_lookup; refine wpl_look_ok _ rfl _ _ tMM rfl 3 Try.underlying56 (zeroI _) b0 _ _ rfl hVE x hIx rfl _ hva true hsa ?_)
                  | (at_lookup; refine wpl_look_ok _ rfl _ _ tMM rfl 3 Try.underlying56 (zeroI _) b0 _ _ rfl hVE y hIy rfl _ hvb false hsb ?_))
                refine ⟨⟨k + 1, by omega, by first | go_num | simp, HNx.out (by rw [Hok.out]; rfl), HBE⟩, by simp [intOf]; omega⟩
              | some b =>
                have eb := hib b rfl
                subst eb
                clear hia hib
                by_cases hab : a < b
                · have g1 : ¬ (b : Int) ≤ (a : Int) := by omega
                  have g2 : decide ((a : Int) ≥ (b : Int)) = false := by simp; omega
                  have HY : Hid (stepOk o l[k] = true) := by show _ = _; rw [Hok.out]; exact decide_eq_true hab
                  go_wp2_with (first
                    | (at_lookup; refine wpl_look_ok _ rfl _ _ tMM rfl 3 Try.underlying56 (zeroI _) b0 _ _ rfl hVE x hIx rfl _ hva true hsa ?_)
                    | (at_lookup; refine wpl_look_ok _ rfl _ _ tMM rfl 3 Try.underlying56 (zeroI _) b0 _ _ rfl hVE y hIy rfl _ hvb true hsb ?_))
                  refine ⟨⟨k + 1, by omega, by first | go_num | simp, HNx.out HY.out, HBE⟩, by simp [intOf]; omega⟩
                · have g1 : (b : Int) ≤ (a : Int) := by omega
                  have g2 : decide ((a : Int) ≥ (b : Int)) = true := by simp; omega
                  have HF : Hid (rr = false) := HNo'.out (by rw [Hok.out]; exact decide_eq_false hab)
                  have HBe := Lib.hid BE
                  go_wp2_with (first
                    | (at_lookup; refine wpl_look_ok _ rfl _ _ tMM rfl 3 Try.underlying56 (zeroI _) b0 _ _ rfl hVE x hIx rfl _ hva true hsa ?_)
                    | (at_lookup; refine wpl_look_ok _ rfl _ _ tMM rfl 3 Try.underlying56 (zeroI _) b0 _ _ rfl hVE y hIy rfl _ hvb true hsb ?_))
                  go_ret
                  rw [HF.out]
                  exact ⟨rfl, by first | exact HBe.out | (rw [← hb0]; exact HBe.out)⟩
          · obtain rfl : nl = k := by omega
            have jq2 : ¬ (nl : Int) < (nl : Int) := by omega
            have HF : Hid (rr = true) := by
              show _ = _
              rw [← HRR.out]
              exact fwd_yes o l Hall.out (fun k hk => HA.out k hk (by have := HNl.out; omega))
            have HBe := Lib.hid hBk
            go_wp2_with fail
            go_ret
            rw [HF.out]
            exact ⟨rfl, by first | exact HBe.out | (rw [← hb0]; exact HBe.out)⟩
      · have hNe := dup_less o N HNu.out hd
        rw [HNo.out] at hNe
        have hnn : (N.length : Int) < (no : Int) := by omega
        have HF : Hid (rr = false) := by show _ = _; rw [← HRR.out]; exact one_of_nodup o l hd
        have Hnd := HNu.out.nodup
        clear hd
        go_wp2_with (at_len; refine wpl_len _ rfl _ tMM rfl 3 Try.underlying56 b0 _ _ rfl hV N Hnd hks ?_)
        go_ret
        rw [HF.out]
        exact ⟨rfl, by first | exact HB.out | (rw [← hb0]; exact HB.out)⟩
end Go.Proofs.Ytpfpkpaodlmlaaa
