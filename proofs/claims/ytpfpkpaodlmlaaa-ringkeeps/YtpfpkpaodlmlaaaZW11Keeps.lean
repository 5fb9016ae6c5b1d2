/-
  The walk of RingKeeps.
-/
import Derived.Test.YtpfpkpaodlmlaaaZShown11
import Derived.Test.YtpfpkpaodlmlaaaZKeep11
import Derived.Test.YtpfpkpaodlmlaaaZJoin11
import Derived.Test.YtpfpkpaodlmlaaaZR11SameS
import Derived.Deep.RegionHeld3
import Derived.BigQuiet
import Derived.Deep.QuietTactic
import Derived.Lib.Hide
namespace Go.Proofs.Ytpfpkpaodlmlaaa
set_option maxRecDepth 100000
open Go.RowKit
set_option linter.unusedVariables false
attribute [local go_sem] ba_size ba_append ba_get ba_extract
theorem add11 (b o j : Nat) : (⟨b, o, none⟩ : Addr).add j = ⟨b, o + j, none⟩ := by
  unfold Addr.add
  by_cases h : j = 0 <;> simp [h]
set_option maxHeartbeats 4000000 in
theorem keeps11_walk {nb lb : Nat} (C : P11C nb lb) (hnb : 300 ≤ nb) (hlb : 120 ≤ lb) (w : World) (vn : Value) (n : List Int) (Tn : IsInts w vn n) (Sn : Shp vn) (Gn : ∀ x ∈ n, okS x) (vl : Value) (l : List Stp) (Tl : IsSts w vl l) (Sl : Shp vl) (Gl : ∀ x ∈ l, goodSt x) (i : Int) (hn : n.length ≤ nb) (hl : l.length ≤ lb) :
    Calls Try.prog 7 #[vn, vl, .int .i64 i] w fun e w' => e = .returned (.bool true) ∧ Below w.heap.size w w' := by
  have HSh : Hid (∀ W, Below w.heap.size w W → Calls Try.prog 10 #[] W fun e w' => e = .returned (.bool true) ∧ Below W.heap.size W w') := fun W h => shown11_any C (by omega) (by omega) W
  have HF : Hid (∀ W, Below w.heap.size w W → Calls Try.prog 11 #[vl] W fun e w' => e = .returned (.bool (decide (l.length ≤ 120))) ∧ Below W.heap.size W w') := fun W hb => few11_any vl l W (Tl.below hb)
  have HO : Hid (∀ W, Below w.heap.size w W → Calls Try.prog 12 #[vn, vl] W fun e w' => OrdRes W (orderL n l) e w') := fun W hb => C.order n l vn vl W (Tn.below hb) Sn Gn (Tl.below hb) Sl Gl hn hl
  have HFw : Hid (∀ (o : List Int) vo (m : List Stp) vm W, IsInts W vo o → Shp vo → (∀ x ∈ o, okS x) → IsSts W vm m → Shp vm → (∀ x ∈ m, x ∈ l) → o.length ≤ 300 → m.length ≤ 120 → Calls Try.prog 15 #[vo, vm] W fun e w' => e = .returned (.bool (fwdB o m)) ∧ Below W.heap.size W w') := fun o vo m vm W hT hS hG hTm hSm hm h1 h2 => C.forward o m vo vm W hT hS hG hTm hSm (fun x hx => Gl x (hm x hx)) (by omega) (by omega)
  have bO : ((orderL n l).getD []).length ≤ n.length := by
    cases hr : orderL n l with
    | none => simp
    | some o' => have := orderF_few l n.length n o' hr; simpa using this
  by_cases h1 : l.length ≤ 120
  · rw [decide_eq_true h1] at HF
    cases hr : orderL n l with
    | none =>
      rw [hr] at HO bO
      clear hr
      obtain ⟨al, cl, rfl, il, jl, kl⟩ := Tl.len
      obtain ⟨a_n, c_n, rfl, i_n, j_n, k_n, HCn⟩ := IsInts.reads Tn
      obtain ⟨nn, hnn⟩ : ∃ nn, n.length = nn := ⟨_, rfl⟩
      obtain ⟨nl, hnl⟩ : ∃ nl, l.length = nl := ⟨_, rfl⟩
      rw [hnn] at Tn HO k_n bO ⊢
      rw [hnl] at Tl HF HO ⊢
      clear hnn hnl HCn
      go_enter Try.func7, Try.ntmps7
      go_wp2_with fail
      refine (HSh.out _ (Below.refl w.heap.size w)).mono ?_
      rintro e w1 ⟨rfl, b1⟩
      have B1 := bel_trans (Below.refl w.heap.size w) b1
      go_wp2_with fail
      refine (HF.out _ B1).mono ?_
      rintro e w2 ⟨rfl, b2⟩
      have B2 := bel_trans B1 b2
      go_wp2_with fail
      refine (HO.out _ B2).mono ?_
      rintro e w3 hres3
      obtain ⟨u_p, rfl, b3, o_p⟩ := hres3
      have B3 := bel_trans B2 b3
      have T_p := ints_own (l := []) o_p (by first | (simp; done) | omega)
      obtain ⟨a_p, c_p, rfl, i_p, j_p, _, HC_p⟩ := T_p.some_at
      go_wp2_with fail
      go_ret
      exact ⟨rfl, B3⟩
    | some o =>
      have HOS : Hid (∀ l', (∀ x ∈ l', x ∈ l) → fwdB o l' = true) := fun l' hm => order_sub n o l l' hr hm
      have HO1 : Hid (∀ x ∈ n, cnT o x o.length = 1) := fun x hx => order_once n o l hr x hx
      have HGO : Hid (∀ x ∈ o, okS x) := fun x hx => Gn x (((orderF_some l n.length n o (Nat.le_refl _) hr).2.1 x).1 hx)
      rw [hr] at HO bO
      simp only [Option.getD_some] at bO
      clear hr
      by_cases h2 : n.length ≤ 100
      · skip
        obtain ⟨al, cl, rfl, il, jl, kl⟩ := Tl.len
        obtain ⟨a_n, c_n, rfl, i_n, j_n, k_n, HCn⟩ := IsInts.reads Tn
        obtain ⟨nn, hnn⟩ : ∃ nn, n.length = nn := ⟨_, rfl⟩
        obtain ⟨nl, hnl⟩ : ∃ nl, l.length = nl := ⟨_, rfl⟩
        have HNN : Hid (n.length = nn) := hnn
        have HNL : Hid (l.length = nl) := hnl
        have j2 : ¬ (100 : Int) < (nn : Int) := by omega
        have Tl0 := Tl
        rw [hnn] at Tn HO k_n bO h2 i_n ⊢
        rw [hnl] at Tl0 HF HO h1 il kl ⊢
        clear hnn hnl
        go_enter Try.func7, Try.ntmps7
        go_wp2_with fail
        refine (HSh.out _ (Below.refl w.heap.size w)).mono ?_
        rintro e w1 ⟨rfl, b1⟩
        have B1 := bel_trans (Below.refl w.heap.size w) b1
        go_wp2_with fail
        refine (HF.out _ B1).mono ?_
        rintro e w2 ⟨rfl, b2⟩
        have B2 := bel_trans B1 b2
        go_wp2_with fail
        refine (HO.out _ B2).mono ?_
        rintro e w3 hres3
        obtain ⟨u_o, rfl, b3, o_o⟩ := hres3
        have B3 := bel_trans B2 b3
        simp only [Option.getD_some] at o_o
        have T_o := ints_own (l := o) o_o (by omega)
        have So := Shp.own o_o
        obtain ⟨a_o, c_o, rfl, i_o, j_o, k_o, HCo⟩ := IsInts.reads T_o
        obtain ⟨no, hno⟩ : ∃ no, o.length = no := ⟨_, rfl⟩
        have HNO : Hid (o.length = no) := hno
        have To0 := T_o
        rw [hno] at To0 So i_o k_o bO ⊢
        clear hno o_o
        go_wp2_with fail
        go_loopw [11] (fun kv wr => ∃ k : Nat, k ≤ nn ∧ kv = .int .i64 k ∧ Below w3.heap.size w3 wr) (fun kv _ => nn - (intOf kv).toNat)
        case atStart => exact ⟨0, Nat.zero_le _, rfl, Below.refl _ _⟩
        case round =>
          obtain ⟨wA, rfl⟩ : ∃ wA, wA = wr := ⟨_, rfl⟩
          obtain ⟨k, hk, rfl, hbk⟩ := hrel
          by_cases hlk : k < nn
          · have jk : (k : Int) < (nn : Int) := by omega
            have jwk : IntKind.i64.wrap ((k : Int) + 1) = (k : Int) + 1 := by rw [IntKind.wrap_i64]; omega
            obtain ⟨bn, on, rfl, HQn⟩ := HCn.out (by have := HNN.out; omega)
            have HX1 : Hid (cnT o (n.getD k 0) o.length = 1) := HO1.out _ (by
              have : k < n.length := by have := HNN.out; omega
              rw [List.getD_eq_getElem?_getD, List.getElem?_eq_getElem this]
              exact List.getElem_mem _)
            have HXC : Hid (∀ V, Below w.heap.size w V → V.cell? ⟨bn, on + k, none⟩ = some (.int .i64 (n.getD k 0))) := fun V hV => HQn.out k (by have := HNN.out; omega) V hV
            obtain ⟨x, hx⟩ : ∃ x, n.getD k 0 = x := ⟨_, rfl⟩
            rw [hx] at HX1 HXC
            clear hx
            go_wp2_with fail
            go_loopw [12, 13] (fun mv iv wr => ∃ m c : Nat, m ≤ no ∧ c ≤ m ∧ iv = .int .i64 m ∧ mv = .int .i64 c ∧ Hid (cnT o x m = c) ∧ Below w3.heap.size w3 wr) (fun _ iv _ => no - (intOf iv).toNat)
            case atStart => exact ⟨0, 0, Nat.zero_le _, Nat.le_refl _, rfl, rfl, by show _ = _; unfold cnT; simp, hbk⟩
            case round =>
              obtain ⟨m, c, hm, hc, rfl, rfl, HCM, hbm⟩ := hrel
              by_cases hlm : m < no
              · have jm : (m : Int) < (no : Int) := by omega
                have jwm : IntKind.i64.wrap ((m : Int) + 1) = (m : Int) + 1 := by rw [IntKind.wrap_i64]; omega
                have jwc : IntKind.i64.wrap ((c : Int) + 1) = (c : Int) + 1 := by rw [IntKind.wrap_i64]; omega
                have hmo : m < o.length := by have := HNO.out; omega
                obtain ⟨bo, oo, rfl, HQo⟩ := HCo.out (by omega)
                have c1 := HQo.out m hmo _ hbm
                have c2 := HXC.out _ (bel_trans B3 hbm)
                have HY := cnT_yes o x m hmo
                have HNo := cnT_no o x m hmo
                have ey : o.getD m 0 = o[m] := by rw [List.getD_eq_getElem?_getD, List.getElem?_eq_getElem hmo]; rfl
                rw [ey] at c1
                obtain ⟨y, hy⟩ : ∃ y, o[m] = y := ⟨_, rfl⟩
                rw [hy] at c1 HY HNo
                clear hy ey hmo
                by_cases hxy : y = x
                · have HZ : Hid (cnT o x (m + 1) = c + 1) := by show _ = _; rw [HY hxy, HCM.out]
                  subst hxy
                  clear HY HNo
                  go_wp2_with fail
                  go_quiet (fail)
                  go_wp2_with fail
                  refine ⟨⟨m + 1, c + 1, by omega, by omega, by first | go_num | simp, by first | go_num | simp, HZ, below_drewN hbm _⟩, by simp [intOf]; omega⟩
                · have HZ : Hid (cnT o x (m + 1) = c) := by show _ = _; rw [HNo hxy, HCM.out]
                  have hxy2 : (y == x) = false := beq_eq_false_iff_ne.2 hxy
                  clear HY HNo hxy
                  go_wp2_with fail
                  go_quiet (fail)
                  go_wp2_with fail
                  refine ⟨⟨m + 1, c, by omega, by omega, by first | go_num | simp, rfl, HZ, below_drewN hbm _⟩, by simp [intOf]; omega⟩
              · obtain rfl : m = no := by omega
                have jm : ¬ (m : Int) < (m : Int) := by omega
                have hc1 : c = 1 := by have := HX1.out; rw [HNO.out, HCM.out] at this; exact this
                subst hc1
                go_wp2_with fail
                refine ⟨⟨k + 1, by omega, by first | go_num | simp, hbm⟩, by simp [intOf]; omega⟩
          · obtain rfl : k = nn := by omega
            have jk : ¬ (k : Int) < (k : Int) := by omega
            have BA := bel_trans B3 hbk
            have TA := To0.below hbk
            have DF := HFw.out o _ l _ _ TA So HGO.out (Tl.below BA) (Sl) (fun _ h => h) (by have := HNO.out; omega) (by have := HNL.out; omega)
            rw [HOS.out l (fun _ h => h), HNL.out] at DF
            by_cases c1 : i < 0
            · go_wp2_with fail
              refine DF.mono ?_
              rintro e w5 ⟨rfl, b5⟩
              go_wp2_with fail
              go_ret
              exact ⟨rfl, bel_trans BA b5⟩
            · by_cases c2 : (nl : Int) ≤ i
              · go_wp2_with fail
                refine DF.mono ?_
                rintro e w5 ⟨rfl, b5⟩
                go_wp2_with fail
                go_ret
                exact ⟨rfl, bel_trans BA b5⟩
              · obtain ⟨N, rfl⟩ : ∃ N : Nat, i = (N : Int) := ⟨i.toNat, by omega⟩
                have d1 : N < nl := by omega
                clear DF
                obtain ⟨i0, hi, hz0, hz1, hz2⟩ := info_parts st_info
                obtain ⟨L', R1, R2⟩ := Tl
                have HL' : Hid (L'.length = nl) := R2.1.trans HNL.out
                obtain ⟨ad, rfl⟩ : ∃ ad, al = some ad := by
                  rcases Sl with e | ⟨ad, _, _, e⟩
                  · simp only [Value.slice.injEq] at e
                    have := HNL.out
                    omega
                  · simp only [Value.slice.injEq] at e
                    exact ⟨ad, e.1⟩
                obtain ⟨bl, ol, hadl⟩ : ∃ bl ol, ad = ⟨bl, ol, none⟩ := by
                  obtain ⟨a', cap', ea, _, _, _, HCa⟩ := R1.some_at
                  obtain ⟨b, off, eb, _⟩ := HCa.out 0 (by have := HL'.out; omega)
                  simp only [Value.slice.injEq] at ea
                  exact ⟨b, off, Option.some.inj (ea.1.trans eb)⟩
                subst hadl
                have RD : Hid (∀ W, Below w.heap.size w W → IsRec 3 stV W (.slice (some ⟨bl, ol + (N + 1) * 3, none⟩) (nl - (N + 1)) (cl - (N + 1))) (L'.drop (N + 1))) := fun W hb => by
                  have h := R1.below hb
                  rw [← R2.1] at h
                  have e := IsRec.cut h (N + 1) L'.length (by have := HL'.out; omega) (Nat.le_refl _)
                  rw [List.take_of_length_le (by rw [List.length_drop]; exact Nat.le_refl _), HL'.out] at e
                  exact e
                have RT : Hid (∀ W, Below w.heap.size w W → IsRec 3 stV W (.slice (some ⟨bl, ol, none⟩) N cl) (L'.take N)) := fun W hb => by
                  have h := R1.below hb
                  rw [← R2.1] at h
                  have e := IsRec.cut h 0 N (Nat.zero_le _) (by have := HL'.out; omega)
                  simpa using e
                have HR2 : Hid (StOf w L' l) := R2
                have HlD : Hid ((L'.drop (N + 1)).length = nl - (N + 1)) := by show _ = _; rw [List.length_drop, HL'.out]
                have HlT : Hid ((L'.take N).length = N) := by show _ = _; rw [List.length_take, HL'.out]; omega
                have HJ : Hid (StOf w (L'.take N ++ L'.drop (N + 1)) (l.take N ++ l.drop (N + 1))) := (R2.first N).join (R2.drop (N + 1))
                have HMk : Hid (∀ x ∈ l.take N ++ l.drop (N + 1), x ∈ l) := cut_mem l N
                have HKl : Hid ((l.take N ++ l.drop (N + 1)).length ≤ 120) := by show _ ≤ _; rw [List.length_append, List.length_take, List.length_drop, HNL.out]; omega
                have HFk : Hid (fwdB o (l.take N ++ l.drop (N + 1)) = true) := HOS.out _ HMk.out
                have HFl : Hid (fwdB o l = true) := HOS.out _ (fun _ h => h)
                obtain ⟨kk, hkk⟩ : ∃ kk, l.take N ++ l.drop (N + 1) = kk := ⟨_, rfl⟩
                rw [hkk] at HJ HMk HKl HFk
                clear hkk R1 R2
                have q2 : (N : Int) ≤ (nl : Int) := by omega
                have q3 : (N : Int) ≤ (cl : Int) := by omega
                have q4 : N ≤ cl := by omega
                have q5 : N ≤ nl := by omega
                have q8 : (nl : Int) ≤ (cl : Int) := by omega
                have q9 : (0 : Int) ≤ (N : Int) := by omega
                have q10 : (N : Int) < (nl : Int) := by omega
                have qw : IntKind.i64.wrap ((N : Int) + 1) = (N : Int) + 1 := by rw [IntKind.wrap_i64]; omega
                have qa : ¬ (N : Int) + 1 < 0 := by omega
                have qb : (0 : Int) ≤ (N : Int) + 1 := by omega
                have qc : ((N : Int) + 1).toNat = N + 1 := by omega
                have qd : (N : Int) + 1 ≤ (nl : Int) := by omega
                have qe : (N : Int) + 1 ≤ (cl : Int) := by omega
                have qf : N + 1 ≤ cl := by omega
                have qg : N + 1 ≤ nl := by omega
                have O0 := own_none11 wA 37 3
                have C0 : Below wA.heap.size wA (wA.alloc (.cells #[] 37)) := (Below.refl wA.heap.size wA).alloc (Nat.le_refl _) _
                by_cases q6 : cl = N + 1
                · have Q6 : Hid (cl = N + 1) := q6
                  clear q6
                  go_wp2_with (at_builtin; refine wpList_append_own_at _ rfl _ _ 23 rfl wA.heap.size 37 i0 (.agg #[.int .i64 0, .int .i64 0, .slice none 0 0]) 3 40 Try.underlying23 hi hz0 hz1 hz2 rfl (by decide) _ _ _ rfl O0 ⟨bl, ol, none⟩ N cl (recV stV (L'.take N)) rfl ?p1 ?p2 ?p3 ?p4 ?p5 ?p6 ?_)
                  case p1 => rw [recV_length stV_len, HlT.out]
                  case p2 => exact fun j u h => by have h' := IsRec.src11 stV_len (by omega) (RT.out wA BA) C0 j u h; first | exact h' | (rw [add11] at h'; exact h') | (simpa [Addr.add] using h')
                  case p3 => exact (HR2.out.first N).cells
                  case p4 => unfold maxLen; omega
                  case p5 => omega
                  (try case p6 => simp)
                  intro v5 W5 own5 gr5 _ _
                  have C5 : Below wA.heap.size wA W5 := C0.grown gr5 (by simp) (fun j hj => (O0.lt j hj).1)
                  clear gr5
                  obtain ⟨g5, c5, rfl, _⟩ := own_slice11j own5
                  have q6 := Q6.out
                  go_wp2_with (at_builtin; refine wpList_append_own_at _ rfl _ _ 23 rfl wA.heap.size 37 i0 (.agg #[.int .i64 0, .int .i64 0, .slice none 0 0]) 3 40 Try.underlying23 hi hz0 hz1 hz2 rfl (by decide) _ _ _ rfl own5 _ _ _ (recV stV ([] : List SVt)) rfl ?r1 ?r2 ?r3 ?r4 ?r5 ?r6 ?_)
                  case r1 => first | (rw [show nl - (N + 1) = 0 by omega]; rfl) | (simp [recV]; omega)
                  case r2 => intro j u hj; simp [recV] at hj
                  case r3 => intro u hu; simp [recV] at hu
                  case r4 => unfold maxLen; omega
                  case r5 => omega
                  (try case r6 => exact C5.size)
                  intro v6 W6 own6 gr6 _ _
                  have C6 : Below wA.heap.size wA W6 := C5.grown gr6 C5.size (fun j hj => (own5.lt j hj).1)
                  clear gr6
                  have B6 : Below w.heap.size w W6 := bel_trans BA C6
                  have HD0 : Hid (L'.drop (N + 1) = []) := by show _ = _; rw [List.drop_eq_nil_iff, HL'.out]; omega
                  have T6 : IsSts W6 v6 kk := IsSts.own (L' := L'.take N ++ L'.drop (N + 1)) (by
                      rw [HD0.out, List.append_nil, HlT.out]
                      have own7 := own6
                      (try rw [show nl - (N + 1) = 0 by omega] at own7)
                      simp only [show recV stV ([] : List SVt) = [] from rfl, List.append_nil, Nat.add_zero] at own7
                      exact own7) (HJ.out.below B6) (by rw [List.length_append, HlD.out, HlT.out]; omega)
                  have S6 := Shp.own own6
                  obtain ⟨g6, c6, rfl, _⟩ := own_slice11j own6
                  clear own5 own6 O0
                  go_wp2_with fail
                  have Tl1 := Tl0
                  rw [q6] at Tl1
                  have D1 := HFw.out o _ l _ _ (To0.below (bel_trans hbk C6)) So HGO.out (Tl1.below B6) (.inr ⟨_, _, _, rfl⟩) (fun _ h => h) (by have := HNO.out; omega) (by have := HNL.out; omega)
                  rw [HFl.out] at D1
                  refine D1.mono ?_
                  rintro e w7 ⟨rfl, b7⟩
                  have B7 := bel_trans B6 b7
                  go_wp2_with fail
                  have D2 := HFw.out o _ kk _ _ (To0.below (bel_trans hbk (bel_trans C6 b7))) So HGO.out (T6.below b7) S6 HMk.out (by have := HNO.out; omega) HKl.out
                  rw [HFk.out] at D2
                  refine D2.mono ?_
                  rintro e w8 ⟨rfl, b8⟩
                  go_wp2_with fail
                  go_ret
                  exact ⟨rfl, bel_trans B7 b8⟩
                · skip
                  go_wp2_with (at_builtin; refine wpList_append_own_at _ rfl _ _ 23 rfl wA.heap.size 37 i0 (.agg #[.int .i64 0, .int .i64 0, .slice none 0 0]) 3 40 Try.underlying23 hi hz0 hz1 hz2 rfl (by decide) _ _ _ rfl O0 ⟨bl, ol, none⟩ N cl (recV stV (L'.take N)) rfl ?p1 ?p2 ?p3 ?p4 ?p5 ?p6 ?_)
                  case p1 => rw [recV_length stV_len, HlT.out]
                  case p2 => exact fun j u h => by have h' := IsRec.src11 stV_len (by omega) (RT.out wA BA) C0 j u h; first | exact h' | (rw [add11] at h'; exact h') | (simpa [Addr.add] using h')
                  case p3 => exact (HR2.out.first N).cells
                  case p4 => unfold maxLen; omega
                  case p5 => omega
                  (try case p6 => simp)
                  intro v5 W5 own5 gr5 _ _
                  have C5 : Below wA.heap.size wA W5 := C0.grown gr5 (by simp) (fun j hj => (O0.lt j hj).1)
                  clear gr5
                  obtain ⟨g5, c5, rfl, _⟩ := own_slice11j own5
                  go_wp2_with (at_builtin; refine wpList_append_own_at _ rfl _ _ 23 rfl wA.heap.size 37 i0 (.agg #[.int .i64 0, .int .i64 0, .slice none 0 0]) 3 40 Try.underlying23 hi hz0 hz1 hz2 rfl (by decide) _ _ _ rfl own5 ⟨bl, ol + (N + 1) * 3, none⟩ (nl - (N + 1)) (cl - (N + 1)) (recV stV (L'.drop (N + 1))) rfl ?r1 ?r2 ?r3 ?r4 ?r5 ?r6 ?_)
                  case r1 => rw [recV_length stV_len, HlD.out]
                  case r2 => exact fun j u h => by have h' := IsRec.src11 stV_len (by omega) (RD.out wA BA) C5 j u h; first | exact h' | (rw [add11] at h'; exact h') | (simpa [Addr.add] using h')
                  case r3 => exact (HR2.out.drop (N + 1)).cells
                  case r4 => unfold maxLen; omega
                  case r5 => omega
                  (try case r6 => exact C5.size)
                  intro v6 W6 own6 gr6 _ _
                  have C6 : Below wA.heap.size wA W6 := C5.grown gr6 C5.size (fun j hj => (own5.lt j hj).1)
                  clear gr6
                  have B6 : Below w.heap.size w W6 := bel_trans BA C6
                  have T6 : IsSts W6 v6 kk := IsSts.own (L' := L'.take N ++ L'.drop (N + 1)) (by
                      rw [List.length_append, HlT.out, HlD.out, recV_append]
                      have own7 := own6
                      (try simp only [List.nil_append, Nat.zero_add] at own7)
                      exact own7) (HJ.out.below B6) (by rw [List.length_append, HlD.out, HlT.out]; omega)
                  have S6 := Shp.own own6
                  obtain ⟨g6, c6, rfl, _⟩ := own_slice11j own6
                  clear own5 own6 O0
                  go_wp2_with fail
                  have D1 := HFw.out o _ l _ _ (To0.below (bel_trans hbk C6)) So HGO.out (Tl0.below B6) (.inr ⟨_, _, _, rfl⟩) (fun _ h => h) (by have := HNO.out; omega) (by have := HNL.out; omega)
                  rw [HFl.out] at D1
                  refine D1.mono ?_
                  rintro e w7 ⟨rfl, b7⟩
                  have B7 := bel_trans B6 b7
                  go_wp2_with fail
                  have D2 := HFw.out o _ kk _ _ (To0.below (bel_trans hbk (bel_trans C6 b7))) So HGO.out (T6.below b7) S6 HMk.out (by have := HNO.out; omega) HKl.out
                  rw [HFk.out] at D2
                  refine D2.mono ?_
                  rintro e w8 ⟨rfl, b8⟩
                  go_wp2_with fail
                  go_ret
                  exact ⟨rfl, bel_trans B7 b8⟩
      · skip
        obtain ⟨al, cl, rfl, il, jl, kl⟩ := Tl.len
        obtain ⟨a_n, c_n, rfl, i_n, j_n, k_n, HCn⟩ := IsInts.reads Tn
        obtain ⟨nn, hnn⟩ : ∃ nn, n.length = nn := ⟨_, rfl⟩
        obtain ⟨nl, hnl⟩ : ∃ nl, l.length = nl := ⟨_, rfl⟩
        have j2 : (100 : Int) < (nn : Int) := by omega
        rw [hnn] at Tn HO k_n bO ⊢
        rw [hnl] at Tl HF HO ⊢
        clear hnn hnl HCn
        go_enter Try.func7, Try.ntmps7
        go_wp2_with fail
        refine (HSh.out _ (Below.refl w.heap.size w)).mono ?_
        rintro e w1 ⟨rfl, b1⟩
        have B1 := bel_trans (Below.refl w.heap.size w) b1
        go_wp2_with fail
        refine (HF.out _ B1).mono ?_
        rintro e w2 ⟨rfl, b2⟩
        have B2 := bel_trans B1 b2
        go_wp2_with fail
        refine (HO.out _ B2).mono ?_
        rintro e w3 hres3
        obtain ⟨u_p, rfl, b3, o_p⟩ := hres3
        have B3 := bel_trans B2 b3
        have T_p := ints_own (l := o) o_p (by first | (simp; done) | omega)
        obtain ⟨a_p, c_p, rfl, i_p, j_p, _, HC_p⟩ := T_p.some_at
        go_wp2_with fail
        go_ret
        exact ⟨rfl, B3⟩
  · rw [decide_eq_false h1] at HF
    obtain ⟨r, hr⟩ : ∃ r, orderL n l = r := ⟨_, rfl⟩
    rw [hr] at HO bO
    clear hr
    obtain ⟨al, cl, rfl, il, jl, kl⟩ := Tl.len
    obtain ⟨a_n, c_n, rfl, i_n, j_n, k_n, HCn⟩ := IsInts.reads Tn
    obtain ⟨nn, hnn⟩ : ∃ nn, n.length = nn := ⟨_, rfl⟩
    obtain ⟨nl, hnl⟩ : ∃ nl, l.length = nl := ⟨_, rfl⟩
    rw [hnn] at Tn HO k_n bO ⊢
    rw [hnl] at Tl HF HO ⊢
    clear hnn hnl HCn
    go_enter Try.func7, Try.ntmps7
    go_wp2_with fail
    refine (HSh.out _ (Below.refl w.heap.size w)).mono ?_
    rintro e w1 ⟨rfl, b1⟩
    have B1 := bel_trans (Below.refl w.heap.size w) b1
    go_wp2_with fail
    refine (HF.out _ B1).mono ?_
    rintro e w2 ⟨rfl, b2⟩
    have B2 := bel_trans B1 b2
    go_wp2_with fail
    refine (HO.out _ B2).mono ?_
    rintro e w3 hres3
    obtain ⟨u_p, rfl, b3, o_p⟩ := hres3
    have B3 := bel_trans B2 b3
    have T_p := ints_own (l := (r.getD [])) o_p (by first | (simp; done) | omega)
    obtain ⟨a_p, c_p, rfl, i_p, j_p, _, HC_p⟩ := T_p.some_at
    go_wp2_with fail
    go_ret
    exact ⟨rfl, B3⟩
end Go.Proofs.Ytpfpkpaodlmlaaa
