/-
  The walk of RingShort.
-/
import Derived.Test.YtpfpkpaodlmlaaaZShown11
import Derived.Test.YtpfpkpaodlmlaaaZTurn11
import Derived.Test.YtpfpkpaodlmlaaaZSts11
import Derived.Test.YtpfpkpaodlmlaaaZR11SameS
import Derived.Deep.RegionHeld3
import Derived.BigQuiet
import Derived.Deep.QuietTactic
import Derived.Lib.Hide
namespace Go.Proofs.Ytpfpkpaodlmlaaa
set_option maxRecDepth 100000
open Go.RowKit
set_option linter.unusedVariables false
attribute [local go_sem] ba_size ba_append ba_get ba_extract
set_option maxHeartbeats 4000000 in
theorem short11_walk {nb lb : Nat} (C : P11C nb lb) (hnb : 300 ≤ nb) (hlb : 120 ≤ lb) (w : World) (vl : Value) (l : List Stp) (Tl : IsSts w vl l) (Sl : Shp vl) (Gl : ∀ x ∈ l, goodSt x) (hl : l.length ≤ lb) (f t : Int) :
    Calls Try.prog 9 #[vl, .int .i64 f, .int .i64 t] w fun e w' => e = .returned (.bool true) ∧ Below w.heap.size w w' := by
  have HSh : Hid (∀ W, Below w.heap.size w W → Calls Try.prog 10 #[] W fun e w' => e = .returned (.bool true) ∧ Below W.heap.size W w') := fun W h => shown11_any C (by omega) (by omega) W
  have HF : Hid (∀ W, Below w.heap.size w W → Calls Try.prog 11 #[vl] W fun e w' => e = .returned (.bool (decide (l.length ≤ 120))) ∧ Below W.heap.size W w') := fun W hb => few11_any vl l W (Tl.below hb)
  have HR : Hid (∀ W, Below w.heap.size w W → Calls Try.prog 17 #[vl] W fun e w' => RingRes 37 W (ringL l) e w') := fun W hb => C.ring l vl W (Tl.below hb) Sl Gl hl
  have bR : ((ringL l).getD []).length ≤ l.length := by
    cases hr : ringL l with
    | none => simp
    | some r' =>
      rcases ringL_few l r' hr with h | h
      · simpa using h
      · subst h; cases hr
  have HCC : Hid (∀ (m : List Stp) vm W, IsSts W vm m → Shp vm → (∀ x ∈ m, x ∈ l) → m.length ≤ 120 → Calls Try.prog 20 #[vm] W fun e w' => e = .returned (.bool (clB m)) ∧ Below W.heap.size W w') := fun m vm W hT hS hm hl => C.closed m vm W hT hS (fun x hx => Gl x (hm x hx)) (by omega)
  by_cases h1 : l.length ≤ 120
  · rw [decide_eq_true h1] at HF
    by_cases c1 : f < 0
    · skip
      obtain ⟨r, hr⟩ : ∃ r, ringL l = r := ⟨_, rfl⟩
      rw [hr] at HR bR
      clear hr
      obtain ⟨al, cl, rfl, il, jl, kl⟩ := Tl.len
      obtain ⟨nl, hnl⟩ : ∃ nl, l.length = nl := ⟨_, rfl⟩
      rw [hnl] at Tl HF HR il kl bR ⊢
      clear hnl
      go_enter Try.func9, Try.ntmps9
      go_wp2_with fail
      refine (HSh.out _ (Below.refl w.heap.size w)).mono ?_
      rintro e w1 ⟨rfl, b1⟩
      have B1 := bel_trans (Below.refl w.heap.size w) b1
      go_wp2_with fail
      refine (HF.out _ B1).mono ?_
      rintro e w2 ⟨rfl, b2⟩
      have B2 := bel_trans B1 b2
      go_wp2_with fail
      refine (HR.out _ B2).mono ?_
      rintro e w3 hres3
      obtain ⟨u_r, L_r, rfl, b3, o_r, so_r⟩ := hres3
      have B3 := bel_trans B2 b3
      have T_r := IsSts.own o_r so_r (by rw [so_r.1]; omega)
      obtain ⟨a_r, c_r, rfl, i_r, j_r, _⟩ := T_r.len
      go_wp2_with fail
      go_ret
      exact ⟨rfl, B3⟩
    · by_cases c2 : (l.length : Int) < t
      · skip
        obtain ⟨r, hr⟩ : ∃ r, ringL l = r := ⟨_, rfl⟩
        rw [hr] at HR bR
        clear hr
        obtain ⟨al, cl, rfl, il, jl, kl⟩ := Tl.len
        obtain ⟨nl, hnl⟩ : ∃ nl, l.length = nl := ⟨_, rfl⟩
        rw [hnl] at Tl HF HR il kl bR c2 ⊢
        clear hnl
        go_enter Try.func9, Try.ntmps9
        go_wp2_with fail
        refine (HSh.out _ (Below.refl w.heap.size w)).mono ?_
        rintro e w1 ⟨rfl, b1⟩
        have B1 := bel_trans (Below.refl w.heap.size w) b1
        go_wp2_with fail
        refine (HF.out _ B1).mono ?_
        rintro e w2 ⟨rfl, b2⟩
        have B2 := bel_trans B1 b2
        go_wp2_with fail
        refine (HR.out _ B2).mono ?_
        rintro e w3 hres3
        obtain ⟨u_r, L_r, rfl, b3, o_r, so_r⟩ := hres3
        have B3 := bel_trans B2 b3
        have T_r := IsSts.own o_r so_r (by rw [so_r.1]; omega)
        obtain ⟨a_r, c_r, rfl, i_r, j_r, _⟩ := T_r.len
        go_wp2_with fail
        go_ret
        exact ⟨rfl, B3⟩
      · by_cases c3 : t ≤ f
        · skip
          obtain ⟨r, hr⟩ : ∃ r, ringL l = r := ⟨_, rfl⟩
          rw [hr] at HR bR
          clear hr
          obtain ⟨al, cl, rfl, il, jl, kl⟩ := Tl.len
          obtain ⟨nl, hnl⟩ : ∃ nl, l.length = nl := ⟨_, rfl⟩
          rw [hnl] at Tl HF HR il kl bR c2 ⊢
          clear hnl
          go_enter Try.func9, Try.ntmps9
          go_wp2_with fail
          refine (HSh.out _ (Below.refl w.heap.size w)).mono ?_
          rintro e w1 ⟨rfl, b1⟩
          have B1 := bel_trans (Below.refl w.heap.size w) b1
          go_wp2_with fail
          refine (HF.out _ B1).mono ?_
          rintro e w2 ⟨rfl, b2⟩
          have B2 := bel_trans B1 b2
          go_wp2_with fail
          refine (HR.out _ B2).mono ?_
          rintro e w3 hres3
          obtain ⟨u_r, L_r, rfl, b3, o_r, so_r⟩ := hres3
          have B3 := bel_trans B2 b3
          have T_r := IsSts.own o_r so_r (by rw [so_r.1]; omega)
          obtain ⟨a_r, c_r, rfl, i_r, j_r, _⟩ := T_r.len
          go_wp2_with fail
          go_ret
          exact ⟨rfl, B3⟩
        · skip
          obtain ⟨F, rfl⟩ : ∃ F : Nat, f = (F : Int) := ⟨f.toNat, by omega⟩
          obtain ⟨T, rfl⟩ : ∃ T : Nat, t = (T : Int) := ⟨t.toNat, by omega⟩
          have d1 : F < T := by omega
          have d2 : T ≤ l.length := by omega
          have HCm : Hid (∀ x ∈ (l.drop F).take (T - F), x ∈ l) := fun x hx => List.mem_of_mem_drop (List.mem_of_mem_take hx)
          have HLm : Hid (((l.drop F).take (T - F)).length = T - F) := by show _ = _; rw [List.length_take, List.length_drop]; omega
          obtain ⟨m, hm⟩ : ∃ m, (l.drop F).take (T - F) = m := ⟨_, rfl⟩
          have HM : Hid ((l.drop F).take (T - F) = m) := hm
          rw [hm] at HCm HLm
          clear hm
          cases hcl : clB m with
          | false =>
            have HCLM : Hid (clB m = false) := hcl
            clear hcl
            obtain ⟨r, hr⟩ : ∃ r, ringL l = r := ⟨_, rfl⟩
            rw [hr] at HR bR
            clear hr
            obtain ⟨al, cl, rfl, il, jl, kl⟩ := Tl.len
            obtain ⟨nl, hnl⟩ : ∃ nl, l.length = nl := ⟨_, rfl⟩
            have HNL : Hid (l.length = nl) := hnl
            rw [hnl] at Tl HF HR il kl h1 d2 c2 bR ⊢
            clear hnl
            have q1 : (F : Int) < (T : Int) := by omega
            have q2 : ¬ (T : Int) ≤ (F : Int) := by omega
            have q3 : (T : Int) ≤ (cl : Int) := by omega
            have q4 : T ≤ cl := by omega
            have q5 : F ≤ T := by omega
            have q6 : ¬ cl = F := by omega
            have q7 : ¬ (T : Int) < 0 := by omega
            have q8 : (0 : Int) ≤ (T : Int) := by omega
            have q9 : (0 : Int) ≤ (F : Int) := by omega
            have q10 : (F : Int) ≤ (T : Int) := by omega
            have q11 : ¬ (F : Int) < 0 := by omega
            obtain ⟨_, _, hvl, _, _, _, HCl⟩ := Tl.reads
            simp only [Value.slice.injEq] at hvl
            obtain ⟨rfl, hq0, rfl⟩ := hvl
            clear hq0
            obtain ⟨bl, ol, rfl, _⟩ := HCl.out 0 (by have := HNL.out; omega)
            have HCut : Hid (∀ W, Below w.heap.size w W → IsSts W (.slice (some ⟨bl, ol + F * 3, none⟩) (T - F) (cl - F)) m) := fun W hb => by
              have e := (Tl.below hb).cut HNL.out F T (by omega) (by omega)
              rw [HM.out] at e
              exact e
            have hml : m.length ≤ 120 := by have := HLm.out; omega
            go_enter Try.func9, Try.ntmps9
            go_wp2_with fail
            refine (HSh.out _ (Below.refl w.heap.size w)).mono ?_
            rintro e w1 ⟨rfl, b1⟩
            have B1 := bel_trans (Below.refl w.heap.size w) b1
            go_wp2_with fail
            refine (HF.out _ B1).mono ?_
            rintro e w2 ⟨rfl, b2⟩
            have B2 := bel_trans B1 b2
            go_wp2_with fail
            refine (HR.out _ B2).mono ?_
            rintro e w3 hres3
            obtain ⟨u_r, L_r, rfl, b3, o_r, so_r⟩ := hres3
            have B3 := bel_trans B2 b3
            have T_r := IsSts.own o_r so_r (by rw [so_r.1]; omega)
            obtain ⟨a_r, c_r, rfl, i_r, j_r, _⟩ := T_r.len
            go_wp2_with fail
            have D := HCC.out m _ _ (HCut.out w3 B3) (.inr ⟨_, _, _, rfl⟩) HCm.out hml
            rw [HCLM.out] at D
            refine D.mono ?_
            rintro e w4 ⟨rfl, b4⟩
            have B4 := bel_trans B3 b4
            go_wp2_with fail
            go_ret
            exact ⟨rfl, B4⟩
          | true =>
            have HCLM : Hid (clB m = true) := hcl
            obtain ⟨r, hr, hrm⟩ := cl_short l m hcl HCm.out
            clear hcl
            obtain ⟨g1, g2, g3⟩ := ring_some l r hr
            have HMr : Hid (∀ x ∈ r, x ∈ l) := g2
            have hrl : r.length ≤ l.length := by rw [hr] at bR; simpa using bR
            have hr0 : 0 < r.length := by obtain ⟨s, r', e, _⟩ := g1; rw [e]; simp
            rw [HLm.out] at hrm
            rw [hr] at HR
            clear hr g1 g2 g3 bR
            obtain ⟨al, cl, rfl, il, jl, kl⟩ := Tl.len
            obtain ⟨nl, hnl⟩ : ∃ nl, l.length = nl := ⟨_, rfl⟩
            have HNL : Hid (l.length = nl) := hnl
            rw [hnl] at Tl HF HR il kl h1 d2 c2 hrl ⊢
            clear hnl
            have q1 : (F : Int) < (T : Int) := by omega
            have q2 : ¬ (T : Int) ≤ (F : Int) := by omega
            have q3 : (T : Int) ≤ (cl : Int) := by omega
            have q4 : T ≤ cl := by omega
            have q5 : F ≤ T := by omega
            have q6 : ¬ cl = F := by omega
            have q7 : ¬ (T : Int) < 0 := by omega
            have q8 : (0 : Int) ≤ (T : Int) := by omega
            have q9 : (0 : Int) ≤ (F : Int) := by omega
            have q10 : (F : Int) ≤ (T : Int) := by omega
            have q11 : ¬ (F : Int) < 0 := by omega
            obtain ⟨_, _, hvl, _, _, _, HCl⟩ := Tl.reads
            simp only [Value.slice.injEq] at hvl
            obtain ⟨rfl, hq0, rfl⟩ := hvl
            clear hq0
            obtain ⟨bl, ol, rfl, _⟩ := HCl.out 0 (by have := HNL.out; omega)
            have HCut : Hid (∀ W, Below w.heap.size w W → IsSts W (.slice (some ⟨bl, ol + F * 3, none⟩) (T - F) (cl - F)) m) := fun W hb => by
              have e := (Tl.below hb).cut HNL.out F T (by omega) (by omega)
              rw [HM.out] at e
              exact e
            have hml : m.length ≤ 120 := by have := HLm.out; omega
            go_enter Try.func9, Try.ntmps9
            go_wp2_with fail
            refine (HSh.out _ (Below.refl w.heap.size w)).mono ?_
            rintro e w1 ⟨rfl, b1⟩
            have B1 := bel_trans (Below.refl w.heap.size w) b1
            go_wp2_with fail
            refine (HF.out _ B1).mono ?_
            rintro e w2 ⟨rfl, b2⟩
            have B2 := bel_trans B1 b2
            go_wp2_with fail
            refine (HR.out _ B2).mono ?_
            rintro e w3 hres3
            obtain ⟨u_r, L_r, rfl, b3, o_r, so_r⟩ := hres3
            have B3 := bel_trans B2 b3
            have T_r := IsSts.own o_r so_r (by rw [so_r.1]; simp only [Option.getD_some]; omega)
            have T_r' : IsSts w3 u_r r := T_r
            clear T_r
            have T_r := T_r'
            clear T_r'
            obtain ⟨a_r, c_r, rfl, i_r, j_r, k_r, HCr⟩ := T_r.reads
            obtain ⟨br, orr, rfl, _⟩ := HCr.out 0 hr0
            obtain ⟨nr, hnr⟩ : ∃ nr, r.length = nr := ⟨_, rfl⟩
            have HNR : Hid (r.length = nr) := hnr
            rw [hnr] at T_r i_r k_r hr0 hrl hrm ⊢
            clear hnr
            go_wp2_with fail
            have D := HCC.out m _ _ (HCut.out w3 B3) (.inr ⟨_, _, _, rfl⟩) HCm.out hml
            rw [HCLM.out] at D
            refine D.mono ?_
            rintro e w4 ⟨rfl, b4⟩
            have B4 := bel_trans B3 b4
            have T_r := T_r.below b4
            have jr0 : (0 : Int) < (nr : Int) := by omega
            go_wp2_with fail
            go_loopw [11, 12] (fun nv iv wr => ∃ i : Nat, i ≤ nr ∧ nv = .bool true ∧ iv = .int .i64 i ∧ Below w4.heap.size w4 wr) (fun _ iv _ => nr - (intOf iv).toNat)
            case atStart => exact ⟨0, Nat.zero_le _, rfl, rfl, Below.refl _ _⟩
            case round =>
              obtain ⟨i, hi, rfl, rfl, hbq⟩ := hrel
              obtain ⟨wq, rfl⟩ : ∃ wq, wq = wr := ⟨_, rfl⟩
              by_cases hli : i < nr
              · have hi1 : i < r.length := by have := HNR.out; omega
                have ji : (i : Int) < (nr : Int) := by omega
                have ji2 : (i : Int) + 1 ≤ (c_r : Int) := by omega
                have ji3 : i + 1 ≤ c_r := by omega
                have jwi : IntKind.i64.wrap ((i : Int) + 1) = (i : Int) + 1 := by rw [IntKind.wrap_i64]; omega
                have ji4 : ¬ (i : Int) + 1 < 0 := by omega
                have ji5 : (0 : Int) ≤ (i : Int) + 1 := by omega
                have ji6 : ((i : Int) + 1).toNat = i + 1 := by omega
                have ji7 : (0 : Int) ≤ (i : Int) := by omega
                have ji8 : ¬ c_r = i := by omega
                obtain ⟨y, hy⟩ : ∃ y, r[i] = y := ⟨_, rfl⟩
                have HY : Hid (r[i]'hi1 = y) := hy
                have HMy : Hid (y ∈ l) := by show y ∈ l; rw [← HY.out]; exact HMr.out _ (List.getElem_mem hi1)
                clear hy
                go_wp2_with fail
                go_loopw [13, 14] (fun ov kv wr => ∃ (k : Nat) (b : Bool), k ≤ nl ∧ kv = .int .i64 k ∧ ov = .bool b ∧ Hid (b = true ↔ ∃ j, ∃ h : j < l.length, j < k ∧ l[j] = y) ∧ Below w4.heap.size w4 wr) (fun _ kv _ => nl - (intOf kv).toNat)
                case atStart => exact ⟨0, false, Nat.zero_le _, rfl, rfl, ⟨fun h => (by cases h), fun ⟨j, _, h, _⟩ => absurd h (by omega)⟩, hbq⟩
                case round =>
                  obtain ⟨k, b, hk, rfl, rfl, HB, hbk⟩ := hrel
                  obtain ⟨wk, rfl⟩ : ∃ wk, wk = wr := ⟨_, rfl⟩
                  by_cases hlk : k < nl
                  · have hk1 : k < l.length := by have := HNL.out; omega
                    have jk : (k : Int) < (nl : Int) := by omega
                    have jk2 : (k : Int) + 1 ≤ (cl : Int) := by omega
                    have jk3 : k + 1 ≤ cl := by omega
                    have jw : IntKind.i64.wrap ((k : Int) + 1) = (k : Int) + 1 := by rw [IntKind.wrap_i64]; omega
                    have jk4 : ¬ (k : Int) + 1 < 0 := by omega
                    have jk5 : (0 : Int) ≤ (k : Int) + 1 := by omega
                    have jk6 : ((k : Int) + 1).toNat = k + 1 := by omega
                    have jk7 : (0 : Int) ≤ (k : Int) := by omega
                    have jk8 : ¬ (cl : Int) < (k : Int) + 1 := by omega
                    have jk9 : ¬ cl < k + 1 := by omega
                    have jk10 : ¬ cl = k := by omega
                    have T1 := fun W (hW : Below wk.heap.size wk W) => (Tl.below (bel_trans B4 (bel_trans hbk hW))).one HNL.out k hk1
                    have T2 := fun W (hW : Below wk.heap.size wk W) => (T_r.below (bel_trans hbk hW)).one HNR.out i hi1
                    rw [HY.out] at T2
                    have CS := fun W (hW : Below wk.heap.size wk W) => rsamesd_any _ _ [l[k]] [y] W (T1 W hW) (T2 W hW)
                    obtain ⟨sb, hsb⟩ : ∃ b, samS [l[k]] [y] = b := ⟨_, rfl⟩
                    have HSB : Hid (sb = true ↔ l[k] = y) := by
                      show _ ↔ _
                      rw [← hsb, samS_iff]
                      simp
                    rw [hsb] at CS
                    have HB2 : Hid ((b || sb) = true ↔ ∃ j, ∃ h : j < l.length, j < k + 1 ∧ l[j] = y) := by
                      show _ ↔ _
                      rw [Bool.or_eq_true, HB.out, HSB.out]
                      constructor
                      · rintro (⟨j, h, h1, h2⟩ | h)
                        · exact ⟨j, h, by omega, h2⟩
                        · exact ⟨k, hk1, by omega, h⟩
                      · rintro ⟨j, h, h1, h2⟩
                        rcases Nat.lt_or_ge j k with h' | h'
                        · exact .inl ⟨j, h, h', h2⟩
                        · obtain rfl : j = k := by omega
                          exact .inr h2
                    clear hsb T1 T2
                    have S0 : (fun V => Below wk.heap.size wk V) wk.drew := (Below.refl _ _).drew
                    have keepS : ∀ V V' : World, (fun V => Below wk.heap.size wk V) V → Below V.heap.size V V' → (fun V => Below wk.heap.size wk V) V' := fun V V' a d => bel_trans a d
                    go_wp2_with fail
                    go_region_held3 (fun V => Below wk.heap.size wk V) (first | exact S0 | exact keepS _ _ (by assumption) (by assumption)) (first | (go_at_call 19; refine (CS _ (by assumption)).mono ?_; rintro e' w' ⟨rfl, b8⟩))
                    rename_i s8
                    have B8 := bel_trans hbk s8
                    clear S0 keepS CS
                    obtain ⟨bb, hbb⟩ : ∃ x, (b || sb) = x := ⟨_, rfl⟩
                    rw [hbb] at HB2
                    have HBB : Hid ((b || sb) = bb) := hbb
                    clear hbb
                    cases b with
                    | false =>
                      obtain rfl : sb = bb := by have := HBB.out; simpa using this
                      go_wp2_with fail
                      refine ⟨⟨k + 1, sb, by omega, by first | go_num | simp, rfl, HB2, B8⟩, by simp [intOf]; omega⟩
                    | true =>
                      obtain rfl : true = bb := by have := HBB.out; simpa using this
                      go_wp2_with fail
                      refine ⟨⟨k + 1, true, by omega, by first | go_num | simp, rfl, (by show _ ↔ _; have e := HB2.out; simpa using e), B8⟩, by simp [intOf]; omega⟩
                  · obtain rfl : k = nl := by omega
                    have jk : ¬ (k : Int) < (k : Int) := by omega
                    have hbt : b = true := HB.out.2 (by
                      obtain ⟨j, hj, e⟩ := List.getElem_of_mem HMy.out
                      exact ⟨j, hj, by rw [← HNL.out]; exact hj, e⟩)
                    subst hbt
                    go_wp2_with fail
                    refine ⟨?_, ?meaS1⟩
                    · exact ⟨i + 1, by omega, by simp⟩
                    · simp [intOf]; omega
              · obtain rfl : i = nr := by omega
                have ji : ¬ (i : Int) < (i : Int) := by omega
                have jz : (i : Int) ≤ (T : Int) - (F : Int) := by omega
                have jz2 : IntKind.i64.wrap ((T : Int) - (F : Int)) = (T : Int) - (F : Int) := by rw [IntKind.wrap_i64]; omega
                go_wp2_with fail
                go_ret
                exact ⟨rfl, bel_trans B4 hbq⟩
  · rw [decide_eq_false h1] at HF
    obtain ⟨r, hr⟩ : ∃ r, ringL l = r := ⟨_, rfl⟩
    rw [hr] at HR bR
    clear hr
    obtain ⟨al, cl, rfl, il, jl, kl⟩ := Tl.len
    obtain ⟨nl, hnl⟩ : ∃ nl, l.length = nl := ⟨_, rfl⟩
    rw [hnl] at Tl HF HR il kl bR ⊢
    clear hnl
    go_enter Try.func9, Try.ntmps9
    go_wp2_with fail
    refine (HSh.out _ (Below.refl w.heap.size w)).mono ?_
    rintro e w1 ⟨rfl, b1⟩
    have B1 := bel_trans (Below.refl w.heap.size w) b1
    go_wp2_with fail
    refine (HF.out _ B1).mono ?_
    rintro e w2 ⟨rfl, b2⟩
    have B2 := bel_trans B1 b2
    go_wp2_with fail
    refine (HR.out _ B2).mono ?_
    rintro e w3 hres3
    obtain ⟨u_r, L_r, rfl, b3, o_r, so_r⟩ := hres3
    have B3 := bel_trans B2 b3
    have T_r := IsSts.own o_r so_r (by rw [so_r.1]; omega)
    obtain ⟨a_r, c_r, rfl, i_r, j_r, _⟩ := T_r.len
    go_wp2_with fail
    go_ret
    exact ⟨rfl, B3⟩
end Go.Proofs.Ytpfpkpaodlmlaaa
