/-
  The library's heap at the heap of numbers that ring.Order keeps: a number goes up.
  The library's heap at the heap of numbers that ring.Order keeps: a number goes down; put in, taken out.
  The heap of numbers that ring.Order keeps: a number put in, the least one taken out.
  The least that is free, by counts: what ring.Order's loops say: in lists.
  What ring.Order's closure does; what Order holds.
  What ring.Order answers.
-/
import Derived.Test.YtpfpkpaodlmlaaaGH
import Derived.Test.YtpfpkpaodlmlaaaGD
import Derived.Test.YtpfpkpaodlmlaaaGI
import Derived.Test.YtpfpkpaodlmlaaaGF
import Derived.Test.YtpfpkpaodlmlaaaGG
import Derived.Shelf.Abstract
import Derived.Test.YtpfpkpaodlmlaaaZP11Wv
namespace Go.Proofs.Ytpfpkpaodlmlaaa
set_option maxRecDepth 100000
open Go.RowKit
set_option linter.unusedVariables false
attribute [local go_sem] ba_size
abbrev tPR : TypeId := 72
abbrev ifR (bn : Nat) : Value := .iface tPR (.pointer (some ⟨bn, 0, none⟩))
section
variable (b : Nat) (W : World)
theorem nil_len : (nilAhead 223 72 (.pointer (some ⟨b, 0, none⟩)) "Len").run Try.prog W = .ok (some false) W := by kernel_rfl
theorem nil_less : (nilAhead 223 72 (.pointer (some ⟨b, 0, none⟩)) "Less").run Try.prog W = .ok (some false) W := by kernel_rfl
theorem nil_swap : (nilAhead 223 72 (.pointer (some ⟨b, 0, none⟩)) "Swap").run Try.prog W = .ok (some false) W := by kernel_rfl
theorem nil_push : (nilAhead 223 72 (.pointer (some ⟨b, 0, none⟩)) "Push").run Try.prog W = .ok (some false) W := by kernel_rfl
theorem nil_pop : (nilAhead 223 72 (.pointer (some ⟨b, 0, none⟩)) "Pop").run Try.prog W = .ok (some false) W := by kernel_rfl
theorem m_push : (method 223 72 (.pointer (some ⟨b, 0, none⟩)) "Push").run Try.prog W = .ok (94, .pointer (some ⟨b, 0, none⟩)) W := by kernel_rfl
theorem m_pop : (method 223 72 (.pointer (some ⟨b, 0, none⟩)) "Pop").run Try.prog W = .ok (93, .pointer (some ⟨b, 0, none⟩)) W := by kernel_rfl
theorem m_len {v : Value} (h : W.cell? ⟨b, 0, none⟩ = some v) : (method 223 72 (.pointer (some ⟨b, 0, none⟩)) "Len").run Try.prog W = .ok (26, v) W := by
  have e : (method 223 72 (.pointer (some ⟨b, 0, none⟩)) "Len").run Try.prog W = (do let v ← load ⟨b, 0, none⟩; pure (26, v) : Sem (FuncId × Value)).run Try.prog W := by kernel_rfl
  rw [e]
  go_simp
theorem m_less {v : Value} (h : W.cell? ⟨b, 0, none⟩ = some v) : (method 223 72 (.pointer (some ⟨b, 0, none⟩)) "Less").run Try.prog W = .ok (90, v) W := by
  have e : (method 223 72 (.pointer (some ⟨b, 0, none⟩)) "Less").run Try.prog W = (do let v ← load ⟨b, 0, none⟩; pure (90, v) : Sem (FuncId × Value)).run Try.prog W := by kernel_rfl
  rw [e]
  go_simp
theorem m_swap {v : Value} (h : W.cell? ⟨b, 0, none⟩ = some v) : (method 223 72 (.pointer (some ⟨b, 0, none⟩)) "Swap").run Try.prog W = .ok (92, v) W := by
  have e : (method 223 72 (.pointer (some ⟨b, 0, none⟩)) "Swap").run Try.prog W = (do let v ← load ⟨b, 0, none⟩; pure (92, v) : Sem (FuncId × Value)).run Try.prog W := by kernel_rfl
  rw [e]
  go_simp
end
theorem HpS.row {W : World} {B bn : Nat} {a : List Int} (h : HpS W B bn a) (h0 : 0 < a.length) : ∃ g cp, B ≤ bn ∧ Boxed W bn tR (.slice (some ⟨g, 0, none⟩) a.length cp) ∧ HRow W B g cp a ∧ B ≤ g ∧ g ≠ bn := by
  obtain ⟨hB, v, hb, hrow⟩ := h
  have hne := block_not_row hb (by decide) hrow
  rcases hrow.2 with ⟨_, e0⟩ | ⟨g, cp, cur, rfl, hbase, _⟩
  · omega
  · exact ⟨g, cp, hB, hb, hrow, hbase, fun e => hne (by rw [e]; simp [Value.ownBlock])⟩
theorem HpS.of_swap {W W' : World} {B bn g cp : Nat} {a b : List Int} (hl : b.length = a.length) (hB : B ≤ bn) (hb : Boxed W bn tR (.slice (some ⟨g, 0, none⟩) a.length cp)) (hne : g ≠ bn) (hr : HRow W' B g cp b) (hg : W.grownBy W' (some g)) : HpS W' B bn b :=
  ⟨hB, _, hb.kept hg (fun e => hne (by simpa using e.symm)), by rw [← hl]; exact hr⟩
set_option maxHeartbeats 4000000 in
theorem pup11_any (W : World) (B bn : Nat) (a : List Int) (n : Nat) (hl : a.length = n + 1) (h : HpS W B bn a) (hU : UpI a n (n + 1)) (hn : n < 17592186044416) :
    Calls Try.prog 54 #[ifR bn, .int .i64 (n : Int)] W fun e W' => e = .returned (.tuple #[]) ∧ (∃ b, HpS W' B bn b ∧ b.Perm a ∧ HeapN b (n + 1)) ∧ Fr B bn W W' := by
  have HLen : Hid (a.length = n + 1) := hl
  have HUp : Hid (UpI a n (n + 1)) := hU
  have HH : Hid (HpS W B bn a) := h
  clear hl hU h
  go_enter Try.func54, Try.ntmps54
  go_wp2_with fail
  go_loopw [1] (fun jv wr => ∃ (j : Nat) (b : List Int), jv = .int .i64 (j : Int) ∧ j ≤ n ∧ Hid (b.length = n + 1) ∧ Hid (HpS wr B bn b) ∧ Hid (b.Perm a) ∧ Hid (UpI b j (n + 1)) ∧ Fr B bn W wr) (fun jv _ => (intOf jv).toNat)
  case atStart => exact ⟨n, a, rfl, Nat.le_refl _, HLen, HH, List.Perm.refl _, HUp, Fr.refl _ _ _⟩
  case round =>
    obtain ⟨j, b, rfl, hj, HL, HS, HP, HI, hbw⟩ := hrel
    by_cases h0 : j = 0
    · subst h0
      have HR : Hid (∃ b, HpS wr B bn b ∧ b.Perm a ∧ HeapN b (n + 1)) := ⟨b, HS.out, HP.out, upI_zero HI.out⟩
      go_wp2_with fail
      go_end0
      exact ⟨rfl, HR.out, hbw⟩
    · have hl1 := HL.out
      obtain ⟨g, cp, hB, hb, hr, hBg, hgne⟩ := HS.out.row (by omega)
      have p0 := hb.cell
      have q1 := nil_less bn wr
      have q2 := m_less bn wr p0
      have CL := pless11_any wr B g cp b hr j ((j - 1) / 2) (by omega) (by omega) (by omega)
      have HRr : Hid (HRow wr B g cp b) := hr
      have HBx : Hid (Boxed wr bn tR (.slice (some ⟨g, 0, none⟩) b.length cp)) := hb
      obtain ⟨i, hi⟩ : ∃ i, (j - 1) / 2 = i := ⟨_, rfl⟩
      have HIi : Hid ((j - 1) / 2 = i) := hi
      rw [hi] at CL
      have hij : i < j := by omega
      have e1 : Int.tdiv ((j : Int) - 1) 2 = (i : Int) := by
        rw [← hi, Int.tdiv_eq_ediv_of_nonneg (by omega)]; omega
      have e2 : ((i : Int) == (j : Int)) = false := by simp; omega
      clear hi
      by_cases hlt : hg b j < hg b i
      · rw [decide_eq_true hlt] at CL
        have HI2 : Hid (UpI (swL b i j) i (n + 1)) := by
          have := upI_step HI.out (by omega) (by omega) (by omega) (by rw [HIi.out]; exact hlt)
          rw [HIi.out] at this
          exact this
        have HP2 : Hid ((swL b i j).Perm a) := (swL_perm b i j (by omega) (by omega)).trans HP.out
        have HL2 : Hid ((swL b i j).length = n + 1) := (swL_len b i j).trans hl1
        rw [hl1] at hb p0 q2 CL
        clear hlt hb hr
        go_wp2_with fail
        refine CL.mono ?_
        rintro e w1 ⟨rfl, b1⟩
        have hb1 := boxed_below7 HBx.out b1
        have hr1 : HRow w1 B g cp b := HRr.out.kept (grown_below8 none b1) (by simp [Value.ownBlock])
        have p1 := hb1.cell
        have q3 := nil_swap bn w1
        have q4 := m_swap bn w1 p1
        have CS := pswap11_any w1 B g cp b hr1 i j (by omega) (by omega) (by omega)
        have B1 : Fr B bn W w1 := hbw.andBelow b1 (by have := HBx.out.lt; omega) HBx.out.lt
        have HBx1 : Hid (Boxed w1 bn tR (.slice (some ⟨g, 0, none⟩) b.length cp)) := hb1
        have HRr1 : Hid (HRow w1 B g cp b) := hr1
        rw [hl1] at p1 q4 CS
        clear hb1 hr1
        go_wp2_with fail
        refine CS.mono ?_
        rintro e w2 ⟨rfl, hr2, g2⟩
        have HS2 : Hid (HpS w2 B bn (swL b i j)) := HpS.of_swap (swL_len b i j) hB HBx1.out hgne hr2 g2
        have B2 : Fr B bn W w2 := B1.row HRr1.out HBx1.out (by decide) g2 (by have := HBx1.out.lt; omega)
        go_wp2_with fail
        refine ⟨⟨i, swL b i j, by first | go_num | simp, by omega, HL2, HS2, HP2, HI2, B2⟩, by simp [intOf]; omega⟩
      · rw [decide_eq_false hlt] at CL
        have HR : Hid (HeapN b (n + 1)) := upI_stop HI.out (by rw [HIi.out]; omega)
        rw [hl1] at hb p0 q2 CL
        clear hlt hb hr
        go_wp2_with fail
        refine CL.mono ?_
        rintro e w1 ⟨rfl, b1⟩
        have B1 : Fr B bn W w1 := hbw.andBelow b1 (by have := HBx.out.lt; omega) HBx.out.lt
        have HE : Hid (∃ b, HpS w1 B bn b ∧ b.Perm a ∧ HeapN b (n + 1)) := ⟨b, HS.out.bel b1, HP.out, HR.out⟩
        go_wp2_with fail
        go_end0
        exact ⟨rfl, HE.out, B1⟩
end Go.Proofs.Ytpfpkpaodlmlaaa
namespace Go.Proofs.Ytpfpkpaodlmlaaa
set_option maxRecDepth 100000
open Go.RowKit
set_option linter.unusedVariables false
attribute [local go_sem] ba_size
def IsB (e : Ending) : Prop := ∃ bo : Bool, e = .returned (.bool bo)
theorem swL_keep (a : List Int) (i j n : Nat) (hi : i < n) (hj : j < n) (hn : n < a.length) : hg (swL a i j) n = hg a n := by
  rw [swL_at a i j n (by omega) (by omega), if_neg (by omega), if_neg (by omega)]
set_option maxHeartbeats 8000000 in
theorem pdown11_any (W : World) (B bn : Nat) (a : List Int) (n : Nat) (hl : a.length = n + 1) (h : HpS W B bn a) (hU : DownI a 0 n) (hn : n < 17592186044416) :
    Calls Try.prog 55 #[ifR bn, .int .i64 0, .int .i64 (n : Int)] W fun e W' => IsB e ∧ (∃ b, HpS W' B bn b ∧ b.Perm a ∧ HeapN b n ∧ hg b n = hg a n) ∧ Fr B bn W W' := by
  have HLen : Hid (a.length = n + 1) := hl
  have HUp : Hid (DownI a 0 n) := hU
  have HH : Hid (HpS W B bn a) := h
  clear hl hU h
  go_enter Try.func55, Try.ntmps55
  go_wp2_with fail
  go_loopw [7] (fun jv wr => ∃ (i : Nat) (b : List Int), jv = .int .i64 (i : Int) ∧ i ≤ n ∧ Hid (b.length = n + 1) ∧ Hid (HpS wr B bn b) ∧ Hid (b.Perm a) ∧ Hid (DownI b i n) ∧ Hid (hg b n = hg a n) ∧ Fr B bn W wr) (fun jv _ => n - (intOf jv).toNat)
  case atStart => exact ⟨0, a, rfl, Nat.zero_le _, HLen, HH, List.Perm.refl _, HUp, rfl, Fr.refl _ _ _⟩
  case round =>
    obtain ⟨i, b, rfl, hi, HL, HS, HP, HI, HK, hbw⟩ := hrel
    have z1 : IntKind.i64.wrap (2 * (i : Int)) = 2 * (i : Int) := by rw [IntKind.wrap_i64]; omega
    have z2 : IntKind.i64.wrap (2 * (i : Int) + 1) = 2 * (i : Int) + 1 := by rw [IntKind.wrap_i64]; omega
    by_cases c1 : 2 * i + 1 < n
    · have hl1 := HL.out
      obtain ⟨g, cp, hB, hb, hr, hBg, hgne⟩ := HS.out.row (by omega)
      have p0 := hb.cell
      have q1 := nil_less bn wr
      have q2 := m_less bn wr p0
      have d1 : decide (2 * (i : Int) + 1 ≥ (n : Int)) = false := by simp; omega
      have d2 : decide (2 * (i : Int) + 1 < 0) = false := by simp; omega
      have d3 : ¬ ((n : Int) ≤ 2 * (i : Int) + 1) := by omega
      have d4 : ¬ (2 * (i : Int) + 1 < 0) := by omega
      have HRr : Hid (HRow wr B g cp b) := hr
      have HBx : Hid (Boxed wr bn tR (.slice (some ⟨g, 0, none⟩) b.length cp)) := hb
      have z3 : IntKind.i64.wrap (2 * (i : Int) + 1 + 1) = 2 * (i : Int) + 2 := by rw [IntKind.wrap_i64]; omega
      have z4 : 2 * (i : Int) + 1 + 1 = 2 * (i : Int) + 2 := by omega
      by_cases c2 : 2 * i + 2 < n
      · have c2' : 2 * (i : Int) + 2 < (n : Int) := by omega
        have CA := pless11_any wr B g cp b hr (2 * i + 2) (2 * i + 1) (by omega) (by omega) (by omega)
        have eA : ((2 * i + 2 : Nat) : Int) = 2 * (i : Int) + 2 := by omega
        have eB : ((2 * i + 1 : Nat) : Int) = 2 * (i : Int) + 1 := by omega
        rw [eA, eB] at CA
        clear eA eB
        by_cases c3 : hg b (2 * i + 2) < hg b (2 * i + 1)
        · rw [decide_eq_true c3] at CA
          have HLc : Hid (LeastC b i (2 * i + 2) n) := leastC_two c2 c3
          rw [hl1] at q2 CA p0
          clear c3 hb hr
          go_wp2_with fail
          refine CA.mono ?_
          rintro e w1 ⟨rfl, b1⟩
          have HX1 : Hid (Boxed w1 bn tR (.slice (some ⟨g, 0, none⟩) b.length cp)) := boxed_below7 HBx.out b1
          have HR1 : Hid (HRow w1 B g cp b) := HRr.out.kept (grown_below8 none b1) (by simp [Value.ownBlock])
          have HS1 : Hid (HpS w1 B bn b) := HS.out.bel b1
          have B1 : Fr B bn W w1 := hbw.andBelow b1 (by have := HBx.out.lt; omega) HBx.out.lt
          clear CA
          have HC : Hid (LeastC b i (2 * i + 2) n) := HLc.out
          have q5 := nil_less bn w1
          have q6 := m_less bn w1 (HX1.out.cell)
          have CJ := pless11_any w1 B g cp b HR1.out (2 * i + 2) i (by omega) (by omega) (by omega)
          have eJ : ((2 * i + 2 : Nat) : Int) = 2 * (i : Int) + 2 := by omega
          rw [eJ] at CJ
          by_cases hlt : hg b (2 * i + 2) < hg b i
          · rw [decide_eq_true hlt] at CJ
            have HI2 : Hid (DownI (swL b i (2 * i + 2)) (2 * i + 2) n) := downI_step HI.out (by omega) HC.out hlt
            have HP2 : Hid ((swL b i (2 * i + 2)).Perm a) := (swL_perm b i (2 * i + 2) (by omega) (by omega)).trans HP.out
            have HL2 : Hid ((swL b i (2 * i + 2)).length = n + 1) := (swL_len b i (2 * i + 2)).trans hl1
            have HK2 : Hid (hg (swL b i (2 * i + 2)) n = hg a n) := (swL_keep b i (2 * i + 2) n (by omega) (by omega) (by omega)).trans HK.out
            rw [hl1] at q6 CJ
            clear hlt eJ
            go_wp2_with fail
            refine CJ.mono ?_
            rintro e w2 ⟨rfl, b2⟩
            have hb2 := boxed_below7 HX1.out b2
            have hr2 : HRow w2 B g cp b := HR1.out.kept (grown_below8 none b2) (by simp [Value.ownBlock])
            have p2 := hb2.cell
            have q7 := nil_swap bn w2
            have q8 := m_swap bn w2 p2
            have CS := pswap11_any w2 B g cp b hr2 i (2 * i + 2) (by omega) (by omega) (by omega)
            have eJ : ((2 * i + 2 : Nat) : Int) = 2 * (i : Int) + 2 := by omega
            rw [eJ] at CS
            have B2 : Fr B bn W w2 := B1.andBelow b2 (by have := HX1.out.lt; omega) HX1.out.lt
            have HBx2 : Hid (Boxed w2 bn tR (.slice (some ⟨g, 0, none⟩) b.length cp)) := hb2
            have HRr2 : Hid (HRow w2 B g cp b) := hr2
            rw [hl1] at p2 q8 CS
            clear hb2 hr2 eJ
            go_wp2_with fail
            refine CS.mono ?_
            rintro e w3 ⟨rfl, hr3, g3⟩
            have HS3 : Hid (HpS w3 B bn (swL b i (2 * i + 2))) := HpS.of_swap (swL_len b i (2 * i + 2)) hB HBx2.out hgne hr3 g3
            have B3 : Fr B bn W w3 := B2.row HRr2.out HBx2.out (by decide) g3 (by have := HBx2.out.lt; omega)
            go_wp2_with fail
            refine ⟨⟨2 * i + 2, swL b i (2 * i + 2), by first | go_num | (simp; done) | (congr 1; omega), by omega, HL2, HS3, HP2, HI2, HK2, B3⟩, by simp [intOf]; omega⟩
          · rw [decide_eq_false hlt] at CJ
            have HR9 : Hid (HeapN b n) := downI_stop HI.out HC.out (by omega)
            rw [hl1] at q6 CJ
            clear hlt eJ
            go_wp2_with fail
            refine CJ.mono ?_
            rintro e w2 ⟨rfl, b2⟩
            have B2 : Fr B bn W w2 := B1.andBelow b2 (by have := HX1.out.lt; omega) HX1.out.lt
            have HE : Hid (∃ b, HpS w2 B bn b ∧ b.Perm a ∧ HeapN b n ∧ hg b n = hg a n) := ⟨b, HS1.out.bel b2, HP.out, HR9.out, HK.out⟩
            go_wp2_with fail
            go_ret
            exact ⟨⟨_, rfl⟩, HE.out, B2⟩
        · rw [decide_eq_false c3] at CA
          have HLc : Hid (LeastC b i (2 * i + 1) n) := leastC_one c1 (.inr (by omega))
          rw [hl1] at q2 CA p0
          clear c3 hb hr
          go_wp2_with fail
          refine CA.mono ?_
          rintro e w1 ⟨rfl, b1⟩
          have HX1 : Hid (Boxed w1 bn tR (.slice (some ⟨g, 0, none⟩) b.length cp)) := boxed_below7 HBx.out b1
          have HR1 : Hid (HRow w1 B g cp b) := HRr.out.kept (grown_below8 none b1) (by simp [Value.ownBlock])
          have HS1 : Hid (HpS w1 B bn b) := HS.out.bel b1
          have B1 : Fr B bn W w1 := hbw.andBelow b1 (by have := HBx.out.lt; omega) HBx.out.lt
          clear CA
          have HC : Hid (LeastC b i (2 * i + 1) n) := HLc.out
          have q5 := nil_less bn w1
          have q6 := m_less bn w1 (HX1.out.cell)
          have CJ := pless11_any w1 B g cp b HR1.out (2 * i + 1) i (by omega) (by omega) (by omega)
          have eJ : ((2 * i + 1 : Nat) : Int) = 2 * (i : Int) + 1 := by omega
          rw [eJ] at CJ
          by_cases hlt : hg b (2 * i + 1) < hg b i
          · rw [decide_eq_true hlt] at CJ
            have HI2 : Hid (DownI (swL b i (2 * i + 1)) (2 * i + 1) n) := downI_step HI.out (by omega) HC.out hlt
            have HP2 : Hid ((swL b i (2 * i + 1)).Perm a) := (swL_perm b i (2 * i + 1) (by omega) (by omega)).trans HP.out
            have HL2 : Hid ((swL b i (2 * i + 1)).length = n + 1) := (swL_len b i (2 * i + 1)).trans hl1
            have HK2 : Hid (hg (swL b i (2 * i + 1)) n = hg a n) := (swL_keep b i (2 * i + 1) n (by omega) (by omega) (by omega)).trans HK.out
            rw [hl1] at q6 CJ
            clear hlt eJ
            go_wp2_with fail
            refine CJ.mono ?_
            rintro e w2 ⟨rfl, b2⟩
            have hb2 := boxed_below7 HX1.out b2
            have hr2 : HRow w2 B g cp b := HR1.out.kept (grown_below8 none b2) (by simp [Value.ownBlock])
            have p2 := hb2.cell
            have q7 := nil_swap bn w2
            have q8 := m_swap bn w2 p2
            have CS := pswap11_any w2 B g cp b hr2 i (2 * i + 1) (by omega) (by omega) (by omega)
            have eJ : ((2 * i + 1 : Nat) : Int) = 2 * (i : Int) + 1 := by omega
            rw [eJ] at CS
            have B2 : Fr B bn W w2 := B1.andBelow b2 (by have := HX1.out.lt; omega) HX1.out.lt
            have HBx2 : Hid (Boxed w2 bn tR (.slice (some ⟨g, 0, none⟩) b.length cp)) := hb2
            have HRr2 : Hid (HRow w2 B g cp b) := hr2
            rw [hl1] at p2 q8 CS
            clear hb2 hr2 eJ
            go_wp2_with fail
            refine CS.mono ?_
            rintro e w3 ⟨rfl, hr3, g3⟩
            have HS3 : Hid (HpS w3 B bn (swL b i (2 * i + 1))) := HpS.of_swap (swL_len b i (2 * i + 1)) hB HBx2.out hgne hr3 g3
            have B3 : Fr B bn W w3 := B2.row HRr2.out HBx2.out (by decide) g3 (by have := HBx2.out.lt; omega)
            go_wp2_with fail
            refine ⟨⟨2 * i + 1, swL b i (2 * i + 1), by first | go_num | (simp; done) | (congr 1; omega), by omega, HL2, HS3, HP2, HI2, HK2, B3⟩, by simp [intOf]; omega⟩
          · rw [decide_eq_false hlt] at CJ
            have HR9 : Hid (HeapN b n) := downI_stop HI.out HC.out (by omega)
            rw [hl1] at q6 CJ
            clear hlt eJ
            go_wp2_with fail
            refine CJ.mono ?_
            rintro e w2 ⟨rfl, b2⟩
            have B2 : Fr B bn W w2 := B1.andBelow b2 (by have := HX1.out.lt; omega) HX1.out.lt
            have HE : Hid (∃ b, HpS w2 B bn b ∧ b.Perm a ∧ HeapN b n ∧ hg b n = hg a n) := ⟨b, HS1.out.bel b2, HP.out, HR9.out, HK.out⟩
            go_wp2_with fail
            go_ret
            exact ⟨⟨_, rfl⟩, HE.out, B2⟩
      · have c2' : decide (2 * (i : Int) + 2 < (n : Int)) = false := by simp; omega
        have c3' : ¬ (2 * (i : Int) + 2 < (n : Int)) := by omega
        rw [hl1] at p0
        clear hb hr q2
        have HC : Hid (LeastC b i (2 * i + 1) n) := leastC_one c1 (.inl (by omega))
        have q5 := nil_less bn wr
        have q6 := m_less bn wr (HBx.out.cell)
        have CJ := pless11_any wr B g cp b HRr.out (2 * i + 1) i (by omega) (by omega) (by omega)
        have eJ : ((2 * i + 1 : Nat) : Int) = 2 * (i : Int) + 1 := by omega
        rw [eJ] at CJ
        by_cases hlt : hg b (2 * i + 1) < hg b i
        · rw [decide_eq_true hlt] at CJ
          have HI2 : Hid (DownI (swL b i (2 * i + 1)) (2 * i + 1) n) := downI_step HI.out (by omega) HC.out hlt
          have HP2 : Hid ((swL b i (2 * i + 1)).Perm a) := (swL_perm b i (2 * i + 1) (by omega) (by omega)).trans HP.out
          have HL2 : Hid ((swL b i (2 * i + 1)).length = n + 1) := (swL_len b i (2 * i + 1)).trans hl1
          have HK2 : Hid (hg (swL b i (2 * i + 1)) n = hg a n) := (swL_keep b i (2 * i + 1) n (by omega) (by omega) (by omega)).trans HK.out
          rw [hl1] at q6 CJ
          clear hlt eJ
          go_wp2_with fail
          refine CJ.mono ?_
          rintro e w2 ⟨rfl, b2⟩
          have hb2 := boxed_below7 HBx.out b2
          have hr2 : HRow w2 B g cp b := HRr.out.kept (grown_below8 none b2) (by simp [Value.ownBlock])
          have p2 := hb2.cell
          have q7 := nil_swap bn w2
          have q8 := m_swap bn w2 p2
          have CS := pswap11_any w2 B g cp b hr2 i (2 * i + 1) (by omega) (by omega) (by omega)
          have eJ : ((2 * i + 1 : Nat) : Int) = 2 * (i : Int) + 1 := by omega
          rw [eJ] at CS
          have B2 : Fr B bn W w2 := hbw.andBelow b2 (by have := HBx.out.lt; omega) HBx.out.lt
          have HBx2 : Hid (Boxed w2 bn tR (.slice (some ⟨g, 0, none⟩) b.length cp)) := hb2
          have HRr2 : Hid (HRow w2 B g cp b) := hr2
          rw [hl1] at p2 q8 CS
          clear hb2 hr2 eJ
          go_wp2_with fail
          refine CS.mono ?_
          rintro e w3 ⟨rfl, hr3, g3⟩
          have HS3 : Hid (HpS w3 B bn (swL b i (2 * i + 1))) := HpS.of_swap (swL_len b i (2 * i + 1)) hB HBx2.out hgne hr3 g3
          have B3 : Fr B bn W w3 := B2.row HRr2.out HBx2.out (by decide) g3 (by have := HBx2.out.lt; omega)
          go_wp2_with fail
          refine ⟨⟨2 * i + 1, swL b i (2 * i + 1), by first | go_num | (simp; done) | (congr 1; omega), by omega, HL2, HS3, HP2, HI2, HK2, B3⟩, by simp [intOf]; omega⟩
        · rw [decide_eq_false hlt] at CJ
          have HR9 : Hid (HeapN b n) := downI_stop HI.out HC.out (by omega)
          rw [hl1] at q6 CJ
          clear hlt eJ
          go_wp2_with fail
          refine CJ.mono ?_
          rintro e w2 ⟨rfl, b2⟩
          have B2 : Fr B bn W w2 := hbw.andBelow b2 (by have := HBx.out.lt; omega) HBx.out.lt
          have HE : Hid (∃ b, HpS w2 B bn b ∧ b.Perm a ∧ HeapN b n ∧ hg b n = hg a n) := ⟨b, HS.out.bel b2, HP.out, HR9.out, HK.out⟩
          go_wp2_with fail
          go_ret
          exact ⟨⟨_, rfl⟩, HE.out, B2⟩
    · have d1 : decide (2 * (i : Int) + 1 ≥ (n : Int)) = true := by simp; omega
      have d3 : (n : Int) ≤ 2 * (i : Int) + 1 := by omega
      have HE : Hid (∃ b, HpS wr B bn b ∧ b.Perm a ∧ HeapN b n ∧ hg b n = hg a n) := ⟨b, HS.out, HP.out, downI_leaf HI.out (by omega), HK.out⟩
      go_wp2_with fail
      go_ret
      exact ⟨⟨_, rfl⟩, HE.out, hbw⟩
end Go.Proofs.Ytpfpkpaodlmlaaa
namespace Go.Proofs.Ytpfpkpaodlmlaaa
set_option maxRecDepth 100000
open Go.RowKit
set_option linter.unusedVariables false
attribute [local go_sem] ba_size
theorem HpS.cell0 {W : World} {B bn : Nat} {a : List Int} (h : HpS W B bn a) : ∃ ad c, Boxed W bn tR (.slice ad a.length c) := by
  obtain ⟨hB, v, hb, hrow⟩ := h
  obtain ⟨ad, c, rfl⟩ := own_shape11 hrow
  exact ⟨ad, c, hb⟩
set_option maxHeartbeats 2000000 in
theorem phpush_any (W : World) (B bn : Nat) (a : List Int) (x : Int) (hx : I64 x) (h : HpS W B bn a) (hH : Heaped a) (hn : a.length < 17592186044415) :
    Calls Try.prog 46 #[ifR bn, .iface 3 (.int .i64 x)] W fun e W' => e = .returned (.tuple #[]) ∧ (∃ b, HpS W' B bn b ∧ Pushed a x b) ∧ Fr B bn W W' := by
  have CP := ppush11_any W B bn a x hx h (by omega)
  have q1 := nil_push bn W
  have q2 := m_push bn W
  have HHe : Hid (Heaped a) := hH
  have hlt := h.2
  clear h hH hlt
  go_enter Try.func46, Try.ntmps46
  go_wp2_with fail
  refine CP.mono ?_
  rintro e w1 ⟨rfl, h1, b1⟩
  obtain ⟨ad, c, hb⟩ := h1.cell0
  have p1 := hb.cell
  have q3 := nil_len bn w1
  have q4 := m_len bn w1 p1
  have hl : (a ++ [x]).length = a.length + 1 := by simp
  have CU := pup11_any w1 B bn (a ++ [x]) a.length hl h1 (upI_start a x HHe.out) (by omega)
  rw [hl] at p1 q4
  obtain ⟨n, hnn⟩ : ∃ n, a.length = n := ⟨_, rfl⟩
  have HN : Hid (a.length = n) := hnn
  rw [hnn] at p1 q4 CU hn
  have z1 : IntKind.i64.wrap ((n : Int) + 1 - 1) = (n : Int) := by rw [IntKind.wrap_i64]; omega
  have CLn := plen11_any ad (n + 1) c w1
  clear hnn hl hb h1
  go_wp2_with fail
  refine CLn.mono ?_
  rintro e w2 ⟨rfl, rfl⟩
  go_wp2_with fail
  refine CU.mono ?_
  rintro e w3 ⟨rfl, ⟨b, hb3, hp3, hh3⟩, b3⟩
  have HE : Hid (∃ b, HpS w3 B bn b ∧ Pushed a x b) := ⟨b, hb3, pushed_of a b x hp3 (by rw [HN.out]; exact hh3)⟩
  have B3 : Fr B bn W w3 := b1.trans b3
  clear hb3 hp3 hh3
  go_wp2_with fail
  go_end0
  exact ⟨rfl, HE.out, B3⟩
set_option maxHeartbeats 2000000 in
theorem phpop_any (W : World) (B bn : Nat) (a : List Int) (h : HpS W B bn a) (hH : Heaped a) (h0 : 0 < a.length) (hn : a.length ≤ 17592186044416) :
    Calls Try.prog 47 #[ifR bn] W fun e W' => (∃ x b, e = .returned (.iface 3 (.int .i64 x)) ∧ HpS W' B bn b ∧ Popped a x b) ∧ Fr B bn W W' := by
  obtain ⟨n, hnn⟩ : ∃ n, a.length = n + 1 := ⟨a.length - 1, by omega⟩
  have HN : Hid (a.length = n + 1) := hnn
  have HHe : Hid (Heaped a) := hH
  obtain ⟨g, cp, hB, hb, hr, hBg, hgne⟩ := h.row h0
  have p0 := hb.cell
  have q1 := nil_len bn W
  have q2 := m_len bn W p0
  have q3 := nil_swap bn W
  have q4 := m_swap bn W p0
  have CLn := plen11_any (some ⟨g, 0, none⟩) (n + 1) cp W
  have CS := pswap11_any W B g cp a hr 0 n (by omega) (by omega) (by omega)
  have HBx : Hid (Boxed W bn tR (.slice (some ⟨g, 0, none⟩) a.length cp)) := hb
  have HRr0 : Hid (HRow W B g cp a) := hr
  rw [hnn] at p0 q2 q4 CS hn
  have z1 : IntKind.i64.wrap ((n : Int) + 1 - 1) = (n : Int) := by rw [IntKind.wrap_i64]; omega
  clear h hb hr hnn hH h0
  go_enter Try.func47, Try.ntmps47
  go_wp2_with fail
  refine CLn.mono ?_
  rintro e w1 ⟨rfl, rfl⟩
  go_wp2_with fail
  refine CS.mono ?_
  rintro e w2 ⟨rfl, hr2, g2⟩
  have hN := HN.out
  have hS2 : HpS w2 B bn (swL a 0 n) := HpS.of_swap (swL_len a 0 n) hB HBx.out hgne hr2 g2
  have B2 : Fr B bn w1 w2 := (Fr.refl B bn w1).row HRr0.out HBx.out (by decide) g2 (by have := HBx.out.lt; omega)
  have CD := pdown11_any w2 B bn (swL a 0 n) n (by rw [swL_len, hN]) hS2 (downI_start a n hN (by have := HHe.out; unfold Heaped at this; rw [hN] at this; exact this)) (by omega)
  clear hS2 hr2
  go_wp2_with fail
  refine CD.mono ?_
  rintro e w3 ⟨⟨bo, rfl⟩, ⟨c, hc1, hc2, hc3, hc4⟩, b3⟩
  have hpa : c.Perm a := hc2.trans (swL_perm a 0 n (by omega) (by omega))
  have hlast : hg c n = hg a 0 := by
    rw [hc4, swL_at a 0 n n (by omega) (by omega), if_pos rfl]
  have hcl : c.length = n + 1 := by rw [hpa.length_eq, hN]
  have HPo : Hid (Popped a (hg a 0) (c.take n)) := popped_of a c n hN HHe.out hpa hc3 hlast
  have hce : c = c.take n ++ [hg a 0] := by
    have h1 : c.take (n + 1) = c.take n ++ [c[n]] := List.take_succ_eq_append_getElem (by omega)
    rw [List.take_of_length_le (by omega)] at h1
    have h2 : c[n] = hg a 0 := by rw [← hlast]; simp [hg, hcl]
    rw [h2] at h1
    exact h1
  rw [hce] at hc1
  have CP := ppop11_any w3 B bn (c.take n) (hg a 0) hc1 (by rw [List.length_take]; omega)
  clear hlast hc4 hce hc1
  obtain ⟨y, hy⟩ : ∃ y, hg a 0 = y := ⟨_, rfl⟩
  rw [hy] at CP HPo
  clear hy
  have q5 := nil_pop bn w3
  have q6 := m_pop bn w3
  have HB3 : Hid (Fr B bn w1 w3) := B2.trans b3
  clear hc2 hc3 hpa hcl
  go_wp2_with fail
  refine CP.mono ?_
  rintro e w4 ⟨rfl, h4, b4⟩
  have H4 : Hid (HpS w4 B bn (c.take n)) := h4
  have B4 : Fr B bn w1 w4 := HB3.out.trans b4
  clear h4
  go_wp2_with fail
  go_ret
  exact ⟨⟨_, _, rfl, H4.out, HPo.out⟩, B4⟩
theorem padd11_any (W : World) (B bn : Nat) (a : List Int) (x : Int) (hx : I64 x) (h : HpS W B bn a) (hH : Heaped a) (hn : a.length < 17592186044415) :
    Calls Try.prog 25 #[.pointer (some ⟨bn, 0, none⟩), .int .i64 x] W fun e W' => e = .returned (.tuple #[]) ∧ (∃ b, HpS W' B bn b ∧ Pushed a x b) ∧ Fr B bn W W' := by
  have C := phpush_any W B bn a x hx h hH hn
  clear h hH
  go_enter Try.func25, Try.ntmps25
  go_wp2_with fail
  refine C.mono ?_
  rintro e w1 ⟨rfl, h1, b1⟩
  have HE : Hid (∃ b, HpS w1 B bn b ∧ Pushed a x b) := h1
  clear h1
  go_wp2_with fail
  go_end0
  exact ⟨rfl, HE.out, b1⟩
theorem pleast11_any (W : World) (B bn : Nat) (a : List Int) (h : HpS W B bn a) (hH : Heaped a) (h0 : 0 < a.length) (hn : a.length ≤ 17592186044416) :
    Calls Try.prog 27 #[.pointer (some ⟨bn, 0, none⟩)] W fun e W' => (∃ x b, e = .returned (.int .i64 x) ∧ HpS W' B bn b ∧ Popped a x b) ∧ Fr B bn W W' := by
  have C := phpop_any W B bn a h hH h0 hn
  clear h hH h0
  go_enter Try.func27, Try.ntmps27
  go_wp2_with fail
  refine C.mono ?_
  rintro e w1 ⟨⟨x, b, rfl, h1, h2⟩, b1⟩
  have hta : ∀ V, (Instr.typeAssert (.iface 3 (.int .i64 x)) 20 3 false).run Try.prog V = .ok (.int .i64 x) V := fun V => by kernel_rfl
  have HE : Hid (HpS w1 B bn b ∧ Popped a x b) := ⟨h1, h2⟩
  clear h1 h2
  go_wp2_with fail
  go_ret
  exact ⟨⟨x, b, rfl, HE.out.1, HE.out.2⟩, b1⟩
end Go.Proofs.Ytpfpkpaodlmlaaa
namespace Go.Proofs.Ytpfpkpaodlmlaaa
set_option maxRecDepth 100000
set_option linter.unusedVariables false
/-- Who is left of some nodes. -/
def leftL (nodes : List Int) (S : Int → Bool) : List Int := nodes.filter S
theorem free_inC (nodes : List Int) (l : List Stp) (S : Int → Bool) (hS : ∀ x, S x = true → x ∈ nodes) (x : Int) : freeP l (leftL nodes S) x ↔ inC l S x = 0 := by
  have hm : ∀ y, y ∈ leftL nodes S ↔ S y = true := fun y => by
    unfold leftL; rw [List.mem_filter]
    exact ⟨fun h => h.2, fun h => ⟨hS y h, h⟩⟩
  unfold freeP inC
  rw [List.countP_eq_zero]
  constructor
  · intro h s hs
    simp only [Bool.and_eq_true, decide_eq_true_eq]
    rintro ⟨h1, h2⟩
    exact h s hs ⟨h1, (hm _).2 h2⟩
  · intro h s hs hh
    have := h s hs
    simp only [Bool.and_eq_true, decide_eq_true_eq] at this
    exact this ⟨hh.1, (hm _).1 hh.2⟩
/-- The heap bears those with the count 0, each once. -/
def Zeros (c : Cnt) (a : List Int) : Prop := a.Nodup ∧ ∀ x, x ∈ a ↔ ∃ q, c x = some (0, q)
theorem Zeros.perm {c : Cnt} {a b : List Int} (h : Zeros c a) (hp : b.Perm a) : Zeros c b := ⟨hp.nodup_iff.2 h.1, fun x => by rw [hp.mem_iff]; exact h.2 x⟩
/-- What is told next. -/
theorem next_best (nodes : List Int) (l : List Stp) (S : Int → Bool) (hS : ∀ x, S x = true → x ∈ nodes) (a : List Int) (hz : Zeros (cntF l S) a) (x : Int) (b : List Int) (hp : Popped a x b) :
    bestL l (leftL nodes S) = some x ∧ S x = true ∧ inC l S x = 0 ∧ x ∉ b := by
  obtain ⟨p1, p2, p3⟩ := hp
  have hm : ∀ y, y ∈ leftL nodes S ↔ S y = true := fun y => by
    unfold leftL; rw [List.mem_filter]
    exact ⟨fun h => h.2, fun h => ⟨hS y h, h⟩⟩
  have hmem : ∀ y, y ∈ a ↔ S y = true ∧ inC l S y = 0 := fun y => by
    rw [hz.2 y]
    unfold cntF
    by_cases h : S y = true
    · rw [if_pos h]; simp [h]
    · rw [if_neg h]; simp [h]
  have hxa : x ∈ a := p2.mem_iff.2 (List.mem_cons_self ..)
  obtain ⟨h1, h2⟩ := (hmem x).1 hxa
  refine ⟨?_, h1, h2, ?_⟩
  · rw [best_some]
    refine ⟨⟨(hm x).2 h1, (free_inC nodes l S hS x).2 h2⟩, fun y hy hf => p3 y ((hmem y).2 ⟨(hm y).1 hy, (free_inC nodes l S hS y).1 hf⟩)⟩
  · have := p2.nodup_iff.1 hz.1
    exact (List.nodup_cons.1 this).1
theorem no_best (nodes : List Int) (l : List Stp) (S : Int → Bool) (hS : ∀ x, S x = true → x ∈ nodes) (hz : Zeros (cntF l S) []) : bestL l (leftL nodes S) = none := by
  rw [best_none]
  intro y hy hf
  have h0 := (free_inC nodes l S hS y).1 hf
  have hSy : S y = true := (List.mem_filter.1 hy).2
  have : y ∈ ([] : List Int) := (hz.2 y).2 ⟨(outC l S y : Int), by unfold cntF; rw [if_pos hSy, h0]; rfl⟩
  cases this
theorem left_drop (nodes : List Int) (S : Int → Bool) (x : Int) : leftL nodes (dropB S x) = (leftL nodes S).filter fun y => decide (y ≠ x) := by
  unfold leftL dropB
  rw [List.filter_filter]
  refine List.filter_congr fun y _ => ?_
  by_cases h : y = x
  · simp [h]
  · simp [h]
/-- Behind delete: the least one is gone. -/
theorem zeros_del (l : List Stp) (S : Int → Bool) (a b : List Int) (x : Int) (hz : Zeros (cntF l S) a) (hp : a.Perm (x :: b)) : Zeros (delC (cntF l S) x) b := by
  have hn := hp.nodup_iff.1 hz.1
  refine ⟨(List.nodup_cons.1 hn).2, fun y => ?_⟩
  unfold delC
  by_cases e : y = x
  · subst e
    rw [if_pos rfl]
    constructor
    · intro h; exact absurd h (List.nodup_cons.1 hn).1
    · rintro ⟨q, h⟩; cases h
  · rw [if_neg e, ← hz.2 y, hp.mem_iff, List.mem_cons]
    constructor
    · intro h; exact .inr h
    · rintro (h | h)
      · exact absurd h e
      · exact h
/-- A number loses a step, and is led to no more: it is put in. -/
theorem zeros_push {c : Cnt} {a b : List Int} {y p q : Int} (hz : Zeros c a) (hc : c y = some (p, q)) (hp : 0 < p) (h1 : p - 1 = 0) (hb : b.Perm (y :: a)) : Zeros (updC c y (p - 1, q)) b := by
  have hya : y ∉ a := fun h => by
    obtain ⟨r, h⟩ := (hz.2 y).1 h
    rw [hc] at h
    simp at h
    omega
  refine ⟨hb.nodup_iff.2 (List.nodup_cons.2 ⟨hya, hz.1⟩), fun x => ?_⟩
  rw [hb.mem_iff, List.mem_cons, hz.2 x]
  unfold updC
  by_cases e : x = y
  · subst e; rw [if_pos rfl, h1]; simp
  · rw [if_neg e]; simp [e]
/-- .. or it is led to still. -/
theorem zeros_stay {c : Cnt} {a : List Int} {y p q : Int} (hz : Zeros c a) (hc : c y = some (p, q)) (hp : 0 < p) (h1 : p - 1 ≠ 0) : Zeros (updC c y (p - 1, q)) a := by
  refine ⟨hz.1, fun x => ?_⟩
  rw [hz.2 x]
  unfold updC
  by_cases e : x = y
  · subst e
    rw [if_pos rfl, hc]
    constructor
    · rintro ⟨r, h⟩; simp at h; omega
    · rintro ⟨r, h⟩; simp at h; exact absurd h.1 h1
  · rw [if_neg e]
/-- Who loses a step by x's going was led to. -/
theorem pos_before (l : List Stp) (S0 S : Int → Bool) (x : Int) (hx : S x = true) (hs : ∀ y, S y = true → S0 y = true) (i : Nat) (hi : i < (outX l S0 x).length) (p : Int × Int) (hp : s1 (delC (cntF l S) x) (outX l S0 x) i (outX l S0 x)[i] = some p) : 0 < p.1 := by
  obtain ⟨X, hX⟩ : ∃ X, outX l S0 x = X := ⟨_, rfl⟩
  obtain ⟨y, hy⟩ : ∃ y, (outX l S0 x)[i] = y := ⟨_, rfl⟩
  rw [hy] at hp
  unfold s1 at hp
  rw [s1_at] at hp
  unfold delC cntF at hp
  by_cases e : y = x
  · rw [if_pos e] at hp; cases hp
  · rw [if_neg e] at hp
    by_cases h : S y = true
    · rw [if_pos h] at hp
      simp only [Option.map_some, Option.some.injEq] at hp
      rw [← hp]
      simp only
      have h1 := outX_count l S0 x y (hs x hx) (hs y h)
      have h2 := inC_drop l S x y hx
      have h3 : ((outX l S0 x).take (i + 1)).count y ≤ (outX l S0 x).count y := List.Sublist.count_le _ (List.take_sublist _ _)
      rw [List.take_succ_eq_append_getElem hi, List.count_append, hy] at h3
      simp at h3
      omega
    · rw [if_neg h] at hp; cases hp
/-- Nobody who is left leads to one that is free. -/
theorem none_before (l : List Stp) (S0 S : Int → Bool) (x : Int) (h0 : inC l S x = 0) (c : Cnt) (hc : ∀ y, (c y).isSome = true → S y = true) (i : Nat) (hi : i < (inX l S0 x).length) : s2 c (inX l S0 x) i (inX l S0 x)[i] = none := by
  obtain ⟨y, hy⟩ : ∃ y, (inX l S0 x)[i] = y := ⟨_, rfl⟩
  rw [hy]
  unfold s2
  rw [s2_at]
  cases hcy : c y with
  | none => rfl
  | some p =>
    exfalso
    have hS := hc y (by rw [hcy]; rfl)
    have hm : y ∈ inX l S0 x := by rw [← hy]; exact List.getElem_mem hi
    unfold inX at hm
    obtain ⟨j, hj, e⟩ := List.mem_map.1 hm
    obtain ⟨j1, j2, j3, j4⟩ := (to_mem l S0 x j).1 hj
    unfold inC at h0
    rw [List.countP_eq_zero] at h0
    have := h0 _ (stA_mem l j j1)
    simp only [Bool.and_eq_true, decide_eq_true_eq] at this
    exact this ⟨j2, by rw [e]; exact hS⟩
theorem s1_dom (c : Cnt) (X : List Int) (y : Int) : (X.foldl st1 c y).isSome = (c y).isSome := by rw [s1_at, Option.isSome_map]
theorem del_dom (l : List Stp) (S : Int → Bool) (x y : Int) (h : (delC (cntF l S) x y).isSome = true) : S y = true := by
  unfold delC cntF at h
  by_cases e : y = x
  · rw [if_pos e] at h; cases h
  · rw [if_neg e] at h
    by_cases hs : S y = true
    · exact hs
    · rw [if_neg hs] at h; cases h
/-- Behind the first loop over the numbers. -/
theorem zeros_all (l : List Stp) (N a : List Int) (hn : N.Nodup) (ha : a.Nodup) (hm : ∀ x, x ∈ a ↔ x ∈ N ∧ inC l (fun y => decide (y ∈ N)) x = 0) : Zeros (cntF l fun y => decide (y ∈ N)) a := by
  refine ⟨ha, fun x => ?_⟩
  rw [hm x]
  unfold cntF
  by_cases h : x ∈ N
  · simp [h]
  · simp [h]
end Go.Proofs.Ytpfpkpaodlmlaaa
namespace Go.Proofs.Ytpfpkpaodlmlaaa
set_option maxRecDepth 100000
open Go.RowKit Go.Maps
set_option linter.unusedVariables false
attribute [local go_sem] ba_size
def RdRes (B bn : Nat) (a : List Int) (x p : Int) (V' : World) : Prop := ∃ b, HpS V' B bn b ∧ Heaped b ∧ ((p = 0 ∧ b.Perm (x :: a)) ∨ (p ≠ 0 ∧ b = a))
set_option maxHeartbeats 2000000 in
theorem pready11_any (V : World) (vl vn : Value) (m1 m2 m3 nb : Nat) (c : Cnt) (x : Int) (p : Int × Int) (B bn bw : Nat) (a : List Int) (hbx : SBox V bw tW (webC vl vn m1 m2 m3)) (hM : CMap V m1 nb c) (hc : c x = some p) (hx : I64 x) (hS : HpS V B bn a) (hH : Heaped a) (hn : a.length < 17592186044415) :
    Calls Try.prog 24 #[.int .i64 x, .pointer (some ⟨bw, 0, none⟩), .pointer (some ⟨bn, 0, none⟩)] V fun e V' => e = .returned (.tuple #[]) ∧ RdRes B bn a x p.1 V' ∧ Fr B bn V V' := by
  have hv : ((c x).map cntV).getD (.agg #[.int .i64 0, .int .i64 0]) = .agg #[.int .i64 p.1, .int .i64 p.2] := by rw [hc]; rfl
  have c2 := hbx.cell 2 _ rfl
  have hfl : ∀ (a b : Int) V, (Instr.field tC (.agg #[.int .i64 a, .int .i64 b]) 0).run Try.prog V = .ok (.int .i64 a) V := fun a b V => by kernel_rfl
  obtain ⟨p1, p2⟩ := p
  simp only at hv ⊢
  by_cases h0 : p1 = 0
  · subst h0
    have CA := padd11_any V B bn a x hx hS hH hn
    clear hS hbx hc
    unfold CMap at hM
    go_enter Try.func24, Try.ntmps24
    go_wp2_with (at_lookup; refine wpl_look _ rfl _ _ tML rfl tC Try.underlying41 (zeroC _) m1 nb _ rfl hM x hx rfl _ hv ?_)
    refine CA.mono ?_
    rintro e w1 ⟨rfl, ⟨b, q1, q2⟩, f1⟩
    have HE : Hid (RdRes B bn a x 0 w1) := ⟨b, q1, q2.1, .inl ⟨rfl, q2.2⟩⟩
    clear q1 q2
    go_wp2_with fail
    go_end0
    exact ⟨rfl, HE.out, f1⟩
  · have e0 : (p1 == 0) = false := by simp [h0]
    have HE : Hid (RdRes B bn a x p1 V) := ⟨a, hS, hH, .inr ⟨h0, rfl⟩⟩
    clear hS hbx hc hH
    unfold CMap at hM
    go_enter Try.func24, Try.ntmps24
    go_wp2_with (at_lookup; refine wpl_look _ rfl _ _ tML rfl tC Try.underlying41 (zeroC _) m1 nb _ rfl hM x hx rfl _ hv ?_)
    go_end0
    exact ⟨rfl, HE.out, Fr.refl _ _ _⟩
theorem enters_ready : ∀ args V, (callFunc 24 args).run Try.prog V = .ok (.enter 24 args) V := enters_of Try.func24 (by kernel_rfl) rfl
/-- What Order holds: the web, the heap, the row of those that were taken. -/
structure OrS (V : World) (bw bn : Nat) (cs : Array Value) (ov : Value) (out a : List Int) : Prop where
  bx : SBox V bw tW cs
  hp : HpS V (bw + 1) bn a
  hh : Heaped a
  ow : V.ownsRow (bw + 1) 3 1 ov out.length (iV out)
  ap : ∀ g, ov.ownBlock = some g → vblk V bn ≠ some g
section
variable {V V' : World} {bw bn : Nat} {cs : Array Value} {ov : Value} {out a b : List Int}
theorem HpS.lt {W : World} {B bn : Nat} {a : List Int} (h : HpS W B bn a) : bn < W.heap.size := by obtain ⟨_, v, hb, _⟩ := h; exact hb.lt
theorem HpS.vb {W : World} {B bn : Nat} {a : List Int} (h : HpS W B bn a) {b : Nat} {t : TypeId} {cs : Array Value} (hb : SBox W b t cs) (ht : t ≠ 3) : some b ≠ vblk W bn := by
  obtain ⟨_, v, hbx, hrow⟩ := h
  rw [vblk_of hbx]
  exact block_not_row hb ht hrow
theorem OrS.bel (h : OrS V bw bn cs ov out a) (hb : Below V.heap.size V V') : OrS V' bw bn cs ov out a :=
  ⟨h.bx.below hb, h.hp.bel hb, h.hh, h.ow.kept (grown_below8 none hb) (by cases ov.ownBlock <;> simp), fun g hg => by rw [vblk_same (hb.block bn h.hp.lt)]; exact h.ap g hg⟩
theorem OrS.turn (h : OrS V bw bn cs ov out a) {m1 : Nat} (hg : V.grownBy V' (some m1)) (hm : m1 < bw) : OrS V' bw bn cs ov out a := by
  obtain ⟨hB, v, hbx, hrow⟩ := h.hp
  refine ⟨(hg.block bw h.bx.lt (fun e => by have := Option.some.inj e; omega)).trans h.bx, ⟨hB, v, hbx.kept hg (fun e => by have := Option.some.inj e; omega), hrow.kept hg (own_off hrow (by omega))⟩, h.hh, h.ow.kept hg (own_off h.ow (by omega)), fun g hgg => ?_⟩
  rw [vblk_same (hg.block bn hbx.lt (fun e => by have := Option.some.inj e; omega))]
  exact h.ap g hgg
theorem OrS.fr (h : OrS V bw bn cs ov out a) (hf : Fr (bw + 1) bn V V') (hb : HpS V' (bw + 1) bn b) (hh : Heaped b) : OrS V' bw bn cs ov out b := by
  obtain ⟨hB, v, hbx, hrow⟩ := h.hp
  have hne : ov.ownBlock ≠ some bn := fun e => block_not_row hbx (by decide) h.ow (by rw [e])
  obtain ⟨q1, q2⟩ := hf.other h.ow hne h.ap
  exact ⟨(hf.bel.block bw (by omega)).trans h.bx, hb, hh, q1, q2⟩
theorem OrS.order (h : OrS V bw bn cs ov out a) {ov' : Value} {x : Int} (o : Obj) {W2 : World} (hown : W2.ownsRow (bw + 1) 3 1 ov' (out.length + 1) (iV out ++ [.int .i64 x])) (hg : (V.alloc o).grownBy W2 ov.ownBlock) (hat : ov'.ownBlock = ov.ownBlock ∨ ov'.ownBlock = some (V.alloc o).heap.size) : OrS W2 bw bn cs ov' (out ++ [x]) a := by
  have hA := h.bel ((Below.refl _ V).alloc (Nat.le_refl _) o)
  obtain ⟨hB, v, hbx, hrow⟩ := hA.hp
  have hvb := vblk_of hbx
  have hnb : some bn ≠ ov.ownBlock := block_not_row hbx (by decide) hA.ow
  have hbx2 : Boxed W2 bn tR v := (hg.block bn hbx.lt hnb).trans hbx
  have hapv : v.ownBlock = none ∨ v.ownBlock ≠ ov.ownBlock := by
    cases hv : v.ownBlock with
    | none => exact .inl rfl
    | some g => exact .inr (fun e => hA.ap g e.symm (by rw [hvb]; exact hv))
  refine ⟨(hg.block bw hA.bx.lt (block_not_row hA.bx (by decide) hA.ow)).trans hA.bx, ⟨hB, v, hbx2, hrow.kept hg hapv⟩, h.hh, by rw [List.length_append, iV_app]; exact hown, fun g hgg e => ?_⟩
  rw [vblk_of hbx2] at e
  rcases hat with e1 | e1
  · exact hA.ap g (by rw [← e1]; exact hgg) (by rw [hvb]; exact e)
  · rw [e1] at hgg
    have := (hrow.lt g e).2
    have := Option.some.inj hgg
    omega
end
theorem zeros_s2 {c : Cnt} {a X : List Int} (h : Zeros c a) : Zeros (X.foldl st2 c) a := by
  refine ⟨h.1, fun x => ?_⟩
  rw [h.2 x, s2_at]
  cases c x with
  | none => simp
  | some p =>
    simp only [Option.some.injEq, Option.map_some]
    constructor
    · rintro ⟨q, rfl⟩; exact ⟨_, rfl⟩
    · rintro ⟨q, h⟩; exact ⟨p.2, by cases p; simp at h; simp [h.1]⟩
theorem zeros_few {l : List Stp} {S : Int → Bool} {N a : List Int} (h : Zeros (cntF l S) a) (hS : ∀ x, S x = true → x ∈ N) : a.length ≤ (N.filter S).length := by
  refine List.Nodup.length_le_of_subset h.1 fun x hx => ?_
  obtain ⟨q, hq⟩ := (h.2 x).1 hx
  unfold cntF at hq
  by_cases hs : S x = true
  · exact List.mem_filter.2 ⟨hS x hs, hs⟩
  · rw [if_neg hs] at hq; cases hq
theorem filter_drop_lt (N : List Int) (S : Int → Bool) (x : Int) (hx : x ∈ N) (hs : S x = true) : (N.filter (dropB S x)).length < (N.filter S).length := by
  have e : N.filter (dropB S x) = (N.filter S).filter fun y => decide (y ≠ x) := left_drop N S x
  rw [e]
  exact filter_less _ x (List.mem_filter.2 ⟨hx, hs⟩)
end Go.Proofs.Ytpfpkpaodlmlaaa
namespace Go.Proofs.Ytpfpkpaodlmlaaa
set_option maxRecDepth 100000
open Go.RowKit Go.Maps
set_option linter.unusedVariables false
attribute [local go_sem] ba_size
abbrev readyF (bw bn : Nat) : Value := .func (.func 24) #[] #[.pointer (some ⟨bw, 0, none⟩), .pointer (some ⟨bn, 0, none⟩)]
/-- While one is taken. -/
def OrJ (bw bn : Nat) (cs : Array Value) (ov : Value) (out : List Int) (nN : Nat) (c : Cnt) (V : World) : Prop := ∃ a, OrS V bw bn cs ov out a ∧ Zeros c a
theorem ptakeO_any (Wc W : World) (l : List Stp) (N : List Int) (vl vn : Value) (m1 m2 m3 : Nat) (hw : Web Wc l N vl vn m1 m2 m3) (S : Int → Bool) (hS : ∀ y, S y = true → y ∈ N) (hM : CMap W m1 17592186044416 (cntF l S)) (hg : Wc.grownBy W (some m1)) (x : Int) (hxS : S x = true) (h0 : inC l S x = 0)
    (bw bn : Nat) (hbw : Wc.heap.size = bw) (hbn : bn = bw + 1) (ov : Value) (out b : List Int) (hO : OrS W bw bn (webC vl vn m1 m2 m3) ov out b) (hz : Zeros (delC (cntF l S) x) b) :
    Calls Try.prog 28 #[webV vl vn m1 m2 m3, .int .i64 x, readyF bw bn] W fun e V' => e = .returned (.tuple #[]) ∧ OrJ bw bn (webC vl vn m1 m2 m3) ov out N.length (cntF l (dropB S x)) V' ∧ CMap V' m1 17592186044416 (cntF l (dropB S x)) ∧ Wc.grownBy V' (some m1) := by
  have hm1 := isMap_lt hw.isM
  have hS0 : ∀ y, S y = true → inN N y = true := fun y hy => by unfold inN; simpa using hS y hy
  have hfewZ : ∀ (c : Cnt) (a : List Int), (∀ y, (c y).isSome = true → S y = true) → Zeros c a → a.length ≤ N.length := fun c a hc h => by
    refine List.Nodup.length_le_of_subset h.1 fun y hy => ?_
    obtain ⟨q, hq⟩ := (h.2 y).1 hy
    exact hS y (hc y (by rw [hq]; rfl))
  have hd1 : ∀ (X : List Int) (y : Int), (X.foldl st1 (delC (cntF l S) x) y).isSome = true → S y = true := fun X y h => del_dom l S x y (by rw [← s1_dom (delC (cntF l S) x) X y]; exact h)
  have hN := hw.fewN
  refine (ptake11_any Wc W l N vl vn m1 m2 m3 17592186044416 hw (cntF l S) hM (by omega) hg x (hw.okN x (hS x hxS)) (bnd_cntF l S) 24 enters_ready #[.pointer (some ⟨bw, 0, none⟩), .pointer (some ⟨bn, 0, none⟩)] bn hO.hp.lt
    (fun i V => OrJ bw bn (webC vl vn m1 m2 m3) ov out N.length (s1 (delC (cntF l S) x) (outX l (inN N) x) i) V)
    (fun i V => OrJ bw bn (webC vl vn m1 m2 m3) ov out N.length ((outX l (inN N) x).foldl st1 (delC (cntF l S) x)) V)
    ⟨b, hO, hz⟩ ?b1 ?k1 ?c1 ?s1 ?j ?b2 ?k2 ?c2 ?s2).mono ?_
  case b1 => rintro i V bb cs ⟨a, hA, _⟩ hb; exact hA.hp.vb hb (by decide)
  case b2 => rintro i V bb cs ⟨a, hA, _⟩ hb; exact hA.hp.vb hb (by decide)
  case k1 => rintro i V V' ⟨a, hA, hz⟩ hg; exact ⟨a, hA.turn hg (by omega), hz⟩
  case k2 => rintro i V V' ⟨a, hA, hz⟩ hg; exact ⟨a, hA.turn hg (by omega), hz⟩
  case s1 => rintro i hi V hn ⟨a, hA, hz⟩; exact ⟨a, hA, by rw [s1_none _ _ i hi hn]; exact hz⟩
  case s2 => rintro i hi V hn h; exact h
  case j => rintro V ⟨a, hA, hz⟩; exact ⟨a, hA, by unfold s1 at hz; rw [List.take_length] at hz; exact hz⟩
  case c2 =>
    intro i hi V _ _ his
    rw [none_before l (inN N) S x h0 _ (fun y hy => hd1 _ y hy) i hi] at his
    cases his
  case c1 =>
    rintro i hi V hgV hsz his ⟨a, hA, hz⟩ hMV
    obtain ⟨p, hp⟩ := Option.isSome_iff_exists.1 his
    have hpos := pos_before l (inN N) S x hxS hS0 i hi p hp
    have hnx := s1_some _ _ i hi p hp
    have hcV : s1 (delC (cntF l S) x) (outX l (inN N) x) (i + 1) (outX l (inN N) x)[i] = some (p.1 - 1, p.2) := by rw [hnx]; unfold updC; rw [if_pos rfl]
    have hyS : S (outX l (inN N) x)[i] = true := hd1 ((outX l (inN N) x).take i) _ (by unfold s1 at hp; rw [hp]; rfl)
    have hla := hfewZ _ a (fun y hy => hd1 ((outX l (inN N) x).take i) y hy) hz
    refine (pready11_any V vl vn m1 m2 m3 17592186044416 _ (outX l (inN N) x)[i] (p.1 - 1, p.2) (bw + 1) bn bw a hA.bx hMV hcV (hw.okN _ (hS _ hyS)) hA.hp hA.hh (by omega)).mono ?_
    rintro e V' ⟨he, ⟨b', r1, r2, r3⟩, fr⟩
    refine ⟨he, ⟨b', hA.fr fr r1 r2, ?_⟩, fr.mono (by omega)⟩
    rw [hnx]
    rcases r3 with ⟨r3, r4⟩ | ⟨r3, r4⟩
    · exact zeros_push hz (by rw [hp]) hpos r3 r4
    · rw [r4]; exact zeros_stay hz (by rw [hp]) hpos r3
  · rintro e V' ⟨he, ⟨a, hA, hz⟩, hc, hg⟩
    have e1 := takeF_is l (inN N) S x hxS hS0
    rw [e1] at hc
    refine ⟨he, ⟨a, hA, ?_⟩, hc, hg⟩
    rw [← e1]
    exact zeros_s2 hz
end Go.Proofs.Ytpfpkpaodlmlaaa
