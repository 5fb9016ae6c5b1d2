/-
  The walk of HistoryVersions.
-/
import Derived.Test.YtpmcmohdhicfcaaZShown8
import Derived.Test.YtpmcmohdhicfcaaZHist10
import Derived.Deep.RegionHeld3
import Derived.BigQuiet
import Derived.Deep.QuietTactic
namespace Go.Proofs.Ytpmcmohdhicfcaa
set_option maxRecDepth 100000
open Go.RowKit
set_option linter.unusedVariables false
attribute [local go_sem] ba_size ba_append ba_get ba_extract
set_option maxHeartbeats 8000000 in
theorem versions8_walk (C : P8C) (w : World) (vh : Value) (h : List Ev) (Th : IsEvs w vh h) (Gh : ∀ x ∈ h, goodE x) (key : List UInt8) (lkey : key.length ≤ 140737488351232) :
    Calls Try.prog 7 #[vh, .string ⟨key.toArray⟩] w fun e w' => e = .returned (.bool true) ∧ Below w.heap.size w w' := by
  have HSh : Hid (∀ W, Below w.heap.size w W → Calls Try.prog 11 #[] W fun e w' => e = .returned (.bool true) ∧ Below W.heap.size W w') := fun W h => shown8_any C W
  have HF : Hid (∀ W, Below w.heap.size w W → Calls Try.prog 12 #[vh] W fun e w' => e = .returned (.bool (decide (h.length ≤ 300))) ∧ Below W.heap.size W w') := fun W hb => few8_any vh h W (Th.below hb)
  have HM : Hid (∀ W, Below w.heap.size w W → Calls Try.prog 13 #[vh] W fun e w' => e = .returned (.tuple #[.int .i64 ((formedL h).1 : Int), .int .i64 ((formedL h).2 : Int)]) ∧ Below W.heap.size W w') := fun W hb => C.formed h vh W (Th.below hb) Gh
  have HFn : Hid (∀ t W, goodI t → Below w.heap.size w W → Calls Try.prog 21 #[vh, .int .i64 t] W fun e w' => e = .returned (.tuple #[lifA (findP h t).1, .bool (findP h t).2]) ∧ Below W.heap.size W w') := fun t W gt hb => C.find h vh W t (Th.below hb) Gh gt
  have HGI : Hid (∀ k, k < h.length → goodI (ev h k).2.1) := fun k hk => by have := Gh _ (List.getElem_mem hk); rw [ev_get h k hk]; unfold goodE at this; exact this.2.1
  by_cases h1 : h.length ≤ 300
  · rw [decide_eq_true h1] at HF
    by_cases h2 : (formedL h).2 = 0
    · have hw := (formed_ok h).1 h2
      rw [formed_wf h hw] at HM
      simp only at HM
      have HVs : Hid (∀ W, Below w.heap.size w W → Calls Try.prog 24 #[vh, .string ⟨key.toArray⟩] W fun e w' => InRow W ((versL h key).map Int.ofNat) e w') := fun W hb => C.versions h vh W key (Th.below hb) Gh h1 lkey
      have HP : Hid (∀ j, j < (versL h key).length → ∃ y f e : Nat, ((versL h key).map Int.ofNat).getD j 0 = (y : Int) ∧ y < h.length ∧ (ev h y).1 = 3 ∧ (ev h y).2.2.1 = key ∧ findL h (ev h y).2.1 = some ((ev h y).2.1, f, e, true) ∧ (srcL h key).getD j 0 = e ∧ ∀ i, i < j → (srcL h key).getD i 0 < e) := fun j hj => vers_pack hw key j hj
      have HS : Hid (∀ k, k < h.length → (ev h k).1 = 3 → (ev h k).2.2.1 = key → ∀ f e, findL h (ev h k).2.1 = some ((ev h k).2.1, f, e, true) → ∃ j y : Nat, j < (versL h key).length ∧ ((versL h key).map Int.ofNat).getD j 0 = ((y : Nat) : Int) ∧ (ev h y).2.1 = (ev h k).2.1 ∧ k ≤ y) := fun k hk a b f e c => vers_some hw key k hk a b f e c
      have HWf : Hid (∀ k, k < h.length → ∃ f e c, findL h (ev h k).2.1 = some ((ev h k).2.1, f, e, c)) := fun k hk => by
        obtain ⟨f, e, a1, _⟩ := wf_find hw hk
        exact ⟨f, e, _, a1⟩
      have bV := vers_len h key
      obtain ⟨nv, hnv⟩ : ∃ m, (versL h key).length = m := ⟨_, rfl⟩
      have HNV : Hid (((versL h key).map Int.ofNat).length = nv) := by show _ = _; rw [List.length_map]; exact hnv
      rw [hnv] at HP HS bV
      obtain ⟨VV, hVV⟩ : ∃ y, (versL h key).map Int.ofNat = y := ⟨_, rfl⟩
      rw [hVV] at HVs HP HS HNV
      clear hw h2 hnv hVV
      obtain ⟨ah, ch, rfl, ih, jh, kh, HCh⟩ := Th.reads
      obtain ⟨n, hn⟩ : ∃ n, h.length = n := ⟨_, rfl⟩
      have HN : Hid (h.length = n) := hn
      simp only [hn] at HF HM HFn HVs h1 bV ih kh ⊢
      clear hn
      go_enter Try.func7, Try.ntmps7
      go_wp2_with fail
      refine (HSh.out _ (Below.refl w.heap.size w)).mono ?_
      rintro e w1 ⟨rfl, b1⟩
      have B1 := bel_trans (Below.refl w.heap.size w) b1
      go_wp2_with fail
      refine (HF.out _ B1).mono ?_
      rintro e w2 ⟨rfl, b2⟩
      have B2 := bel_trans B1 b2
      go_wp2_with fail
      refine (HM.out _ B2).mono ?_
      rintro e w3 ⟨rfl, b3⟩
      have B3 := bel_trans B2 b3
      go_wp2_with fail
      refine (HVs.out _ B3).mono ?_
      rintro e w4 hres4
      obtain ⟨uv, rfl, b4, ov⟩ := hres4
      have B4 := bel_trans B3 b4
      have Tv : IsInts w4 uv VV := IsRec.own (L := VV) intV_len (by omega) ov (by have := HNV.out; omega)
      obtain ⟨av, cv, rfl, iv, jv, kv, HCv⟩ := Tv.reads
      rw [HNV.out] at iv kv ⊢
      clear ov Tv
      go_wp2_with fail
      go_loopw [10, 11] (fun la i wr => ∃ j : Nat, j ≤ nv ∧ la = .int .i64 (lastP h key j) ∧ i = .int .i64 j ∧ Below w4.heap.size w4 wr) (fun _ i _ => nv - (intOf i).toNat)
      case atStart => exact ⟨0, Nat.zero_le _, by rw [lastP_zero], rfl, Below.refl _ _⟩
      case round =>
        obtain ⟨j, hj, rfl, rfl, hbr⟩ := hrel
        have hbw := bel_trans B4 hbr
        by_cases hjl : j < nv
        · obtain ⟨y, f, e, d1, d2, d3, d4, d5, d6, d7⟩ := HP.out j hjl
          have dl := lastP_less h key j e d7
          have HLn : Hid (lastP h key (j + 1) = (e : Int)) := by show _ = _; rw [lastP_next, d6]
          obtain ⟨bv, fv, rfl, HR⟩ := HCv.out (by have := HNV.out; omega)
          have hjv : j < VV.length := by have := HNV.out; omega
          have cv1 := HR.out j hjv _ hbr
          rw [d1] at cv1
          obtain ⟨bb, off, rfl, HQ⟩ := HCh.out (by omega)
          obtain ⟨m0, m1, m2, _⟩ := HQ.out y d2 _ hbw
          have gx := HGI.out y d2
          obtain ⟨⟨x0, x1, x2, x3⟩, hx⟩ : ∃ x, ev h y = x := ⟨_, rfl⟩
          have HX : Hid (ev h y = (x0, x1, x2, x3)) := hx
          rw [hx] at m0 m1 m2 d3 d4 d5 gx
          simp only at m0 m1 m2 d3 d4 d5 gx
          have D := fun W hb => HFn.out x1 W gx hb
          rw [findP_of d5] at D
          simp only at D
          have g1 : ¬ (y : Int) < 0 := by omega
          have g2 : ¬ (n : Int) ≤ (y : Int) := by have := HN.out; omega
          have g3 : ¬ n ≤ y := by omega
          have g33 : y < n := by omega
          have g4 : (x0 != 3) = false := by rw [d3]; rfl
          have g5 : (x2 != key) = false := by rw [d4]; simp
          have g55 : (x2 == key) = true := by rw [d4]; exact beq_self_eq_true _
          obtain ⟨lp, hlp⟩ : ∃ lp, lastP h key j = lp := ⟨_, rfl⟩
          rw [hlp] at dl
          simp only [hlp]
          have g6 : ¬ (e : Int) ≤ lp := by omega
          clear hx d1 d2 d3 d4 d5 d6 d7 gx hlp
          go_wp2_with fail
          refine (D _ hbw).mono ?_
          rintro e' w1' ⟨rfl, b1'⟩
          have C1' := bel_trans hbr b1'
          have C2' := C1'.alloc C1'.size (.cells #[.int .i64 x1, .int .i64 (f : Int), .int .i64 (e : Int), .bool true] 37)
          have X1 := SBox.new w1' 37 #[.int .i64 x1, .int .i64 (f : Int), .int .i64 (e : Int), .bool true]
          have y1 := X1.cell 1 _ rfl
          have y2 := X1.cell 2 _ rfl
          have y3 := X1.cell 3 _ rfl
          have y0 := X1.cell 0 _ rfl
          go_wp2_with fail
          refine ⟨?relA, ?meaA⟩
          case relA => exact ⟨j + 1, by omega, by rw [HLn.out], by first | go_num | simp, C2'⟩
          case meaA => simp [intOf]; omega
        · go_wp2_with fail
          go_loopw [14] (fun i wr => ∃ k : Nat, k ≤ n ∧ i = .int .i64 k ∧ Below w4.heap.size w4 wr) (fun i _ => n - (intOf i).toNat)
          case atStart => exact ⟨0, Nat.zero_le _, rfl, hbr⟩
          case round =>
            obtain ⟨k, hk, rfl, hbr⟩ := hrel
            have hbw := bel_trans B4 hbr
            by_cases hlt : k < n
            · have hk1 : k < h.length := by have := HN.out; omega
              obtain ⟨f, e, c, a1⟩ := HWf.out k hk1
              have hs := HS.out k hk1
              have gx := HGI.out k hk1
              obtain ⟨bb, off, rfl, HQ⟩ := HCh.out (by omega)
              obtain ⟨m0, m1, m2, _⟩ := HQ.out k hk1 _ hbw
              obtain ⟨⟨x0, x1, x2, x3⟩, hx⟩ : ∃ x, ev h k = x := ⟨_, rfl⟩
              have HX : Hid (ev h k = (x0, x1, x2, x3)) := hx
              rw [hx] at m0 m1 m2 a1 hs gx
              simp only at m0 m1 m2 a1 hs gx
              have D := fun W hb => HFn.out x1 W gx hb
              rw [findP_of a1] at D
              simp only at D
              have HE : Hid ((x0 != 3) = true ∨ ((x0 != 3) = false ∧ (x2 != key) = true) ∨ ((x0 != 3) = false ∧ (x2 != key) = false ∧ c = false) ∨ ((x0 != 3) = false ∧ (x2 != key) = false ∧ c = true ∧ ∃ j y : Nat, j < nv ∧ VV.getD j 0 = ((y : Nat) : Int) ∧ (ev h y).2.1 = x1 ∧ k ≤ y)) := by
                by_cases p1 : x0 = 3
                · right
                  by_cases p2 : x2 = key
                  · right
                    cases c with
                    | false => left; exact ⟨by rw [p1]; rfl, by rw [p2]; simp, rfl⟩
                    | true => right; exact ⟨by rw [p1]; rfl, by rw [p2]; simp, rfl, hs p1 p2 f e a1⟩
                  · left; exact ⟨by rw [p1]; rfl, bne_iff_ne.2 p2⟩
                · left; exact bne_iff_ne.2 p1
              clear hx a1 hs gx
              have HBn : Hid ((x2 == key) = !(x2 != key)) := by show _ = _; simp [bne]
              have e3 := HBn.out
              rcases HE.out with e1 | ⟨e1, e2⟩ | ⟨e1, e2, rfl⟩ | ⟨e1, e2, rfl, hex⟩
              all_goals
                try rw [e2, Bool.not_true] at e3
                try rw [e2, Bool.not_false] at e3
              · go_wp2_with fail
                refine (D _ hbw).mono ?_
                rintro e' w1' ⟨rfl, b1'⟩
                have C1' := bel_trans hbr b1'
                have X1 := SBox.new w1' 37 #[.int .i64 x1, .int .i64 (f : Int), .int .i64 (e : Int), .bool c]
                have C2' := C1'.alloc C1'.size (.cells #[.int .i64 x1, .int .i64 (f : Int), .int .i64 (e : Int), .bool c] 37)
                have y1 := X1.cell 1 _ rfl
                have y2 := X1.cell 2 _ rfl
                have y3 := X1.cell 3 _ rfl
                have y0 := X1.cell 0 _ rfl
                obtain ⟨o0, o1, o2, _⟩ := HQ.out k hk1 _ (bel_trans B4 C2')
                rw [HX.out] at o0 o1 o2
                simp only at o0 o1 o2
                go_wp2_with fail
                refine ⟨?relv1, ?meav1⟩
                case relv1 => exact ⟨k + 1, by omega, by first | go_num | simp, C2'⟩
                case meav1 => simp [intOf]; omega
              · go_wp2_with fail
                refine (D _ hbw).mono ?_
                rintro e' w1' ⟨rfl, b1'⟩
                have C1' := bel_trans hbr b1'
                have X1 := SBox.new w1' 37 #[.int .i64 x1, .int .i64 (f : Int), .int .i64 (e : Int), .bool c]
                have C2' := C1'.alloc C1'.size (.cells #[.int .i64 x1, .int .i64 (f : Int), .int .i64 (e : Int), .bool c] 37)
                have y1 := X1.cell 1 _ rfl
                have y2 := X1.cell 2 _ rfl
                have y3 := X1.cell 3 _ rfl
                have y0 := X1.cell 0 _ rfl
                obtain ⟨o0, o1, o2, _⟩ := HQ.out k hk1 _ (bel_trans B4 C2')
                rw [HX.out] at o0 o1 o2
                simp only at o0 o1 o2
                go_wp2_with fail
                refine ⟨?relv2, ?meav2⟩
                case relv2 => exact ⟨k + 1, by omega, by first | go_num | simp, C2'⟩
                case meav2 => simp [intOf]; omega
              · go_wp2_with fail
                refine (D _ hbw).mono ?_
                rintro e' w1' ⟨rfl, b1'⟩
                have C1' := bel_trans hbr b1'
                have X1 := SBox.new w1' 37 #[.int .i64 x1, .int .i64 (f : Int), .int .i64 (e : Int), .bool false]
                have C2' := C1'.alloc C1'.size (.cells #[.int .i64 x1, .int .i64 (f : Int), .int .i64 (e : Int), .bool false] 37)
                have y1 := X1.cell 1 _ rfl
                have y2 := X1.cell 2 _ rfl
                have y3 := X1.cell 3 _ rfl
                have y0 := X1.cell 0 _ rfl
                obtain ⟨o0, o1, o2, _⟩ := HQ.out k hk1 _ (bel_trans B4 C2')
                rw [HX.out] at o0 o1 o2
                simp only at o0 o1 o2
                go_wp2_with fail
                refine ⟨?relv3, ?meav3⟩
                case relv3 => exact ⟨k + 1, by omega, by first | go_num | simp, C2'⟩
                case meav3 => simp [intOf]; omega
              · go_wp2_with fail
                refine (D _ hbw).mono ?_
                rintro e' w1' ⟨rfl, b1'⟩
                have C1' := bel_trans hbr b1'
                have X1 := SBox.new w1' 37 #[.int .i64 x1, .int .i64 (f : Int), .int .i64 (e : Int), .bool true]
                have C2' := C1'.alloc C1'.size (.cells #[.int .i64 x1, .int .i64 (f : Int), .int .i64 (e : Int), .bool true] 37)
                have y1 := X1.cell 1 _ rfl
                have y2 := X1.cell 2 _ rfl
                have y3 := X1.cell 3 _ rfl
                have y0 := X1.cell 0 _ rfl
                obtain ⟨o0, o1, o2, _⟩ := HQ.out k hk1 _ (bel_trans B4 C2')
                rw [HX.out] at o0 o1 o2
                simp only at o0 o1 o2
                have HEX : Hid (∃ j y : Nat, j < nv ∧ VV.getD j 0 = ((y : Nat) : Int) ∧ (ev h y).2.1 = x1 ∧ k ≤ y) := hex
                clear hex
                go_wp2_with fail
                go_loopw [17, 18] (fun b i wq => ∃ (q : Nat) (bo : Bool), q ≤ nv ∧ b = .bool bo ∧ i = .int .i64 q ∧ Hid (InB h VV x1 k q bo) ∧ Below w4.heap.size w4 wq) (fun _ i _ => nv - (intOf i).toNat)
                case atStart => exact ⟨0, false, Nat.zero_le _, rfl, rfl, ⟨fun hh => (by cases hh), fun ⟨j, y, hj, _⟩ => (by omega)⟩, C2'⟩
                case round =>
                  obtain ⟨q, bo, hq, rfl, rfl, HB, hbq⟩ := hrel
                  have hbq' := bel_trans B4 hbq
                  by_cases hql : q < nv
                  · obtain ⟨z, _, _, r1, r2, _, _, _, _, _⟩ := HP.out q hql
                    obtain ⟨bv, fv, rfl, HR⟩ := HCv.out (by have := HNV.out; omega)
                    have hqv : q < VV.length := by have := HNV.out; omega
                    have cv1 := HR.out q hqv _ hbq
                    rw [r1] at cv1
                    obtain ⟨s0, s1, _, _⟩ := HQ.out z r2 _ hbq'
                    obtain ⟨k0, k1, _, _⟩ := HQ.out k hk1 _ hbq'
                    rw [HX.out] at k0 k1
                    simp only at k0 k1
                    have hzn : z < n := by have := HN.out; omega
                    have hz2 : ¬ n ≤ z := by omega
                    have HZ : Hid (∀ bo' : Bool, (bo' = true ↔ bo = true ∨ ((ev h z).2.1 = x1 ∧ k ≤ z)) → InB h VV x1 k (q + 1) bo') := fun bo' hb' => by
                      have hB := HB.out
                      unfold InB at hB ⊢
                      rw [hb', hB]
                      constructor
                      · rintro (⟨j, y, a, b, c, d⟩ | ⟨c, d⟩)
                        · exact ⟨j, y, by omega, b, c, d⟩
                        · exact ⟨q, z, by omega, r1, c, d⟩
                      · rintro ⟨j, y, a, b, c, d⟩
                        rcases Nat.lt_or_ge j q with hjq | hjq
                        · exact .inl ⟨j, y, hjq, b, c, d⟩
                        · obtain rfl : j = q := by omega
                          rw [r1] at b
                          obtain rfl : y = z := by omega
                          exact .inr ⟨c, d⟩
                    obtain ⟨z1, hz1⟩ : ∃ z1, (ev h z).2.1 = z1 := ⟨_, rfl⟩
                    rw [hz1] at s1 HZ
                    clear r1 r2 hz1
                    cases bo with
                    | true =>
                      have HB' : Hid (InB h VV x1 k (q + 1) true) := HZ.out true (by simp)
                      go_wp2_with fail
                      go_quiet (fail)
                      go_wp2_with fail
                      refine ⟨?relE, ?meaE⟩
                      case relE => exact ⟨q + 1, true, by omega, rfl, by first | go_num | simp, HB', below_drewN hbq _⟩
                      case meaE => simp [intOf]; omega
                    | false =>
                      by_cases t1 : z1 = x1
                      · have i1 : (z1 == x1) = true := by rw [t1]; exact beq_self_eq_true _
                        by_cases t2 : k ≤ z
                        · have i2 : (k : Int) ≤ (z : Int) := by omega
                          have HB' : Hid (InB h VV x1 k (q + 1) true) := HZ.out true (by simp [t1, t2])
                          clear t1
                          go_wp2_with fail
                          go_quiet (fail)
                          go_wp2_with fail
                          refine ⟨?relF, ?meaF⟩
                          case relF => exact ⟨q + 1, true, by omega, rfl, by first | go_num | simp, HB', below_drewN hbq _⟩
                          case meaF => simp [intOf]; omega
                        · have i2 : ¬ (k : Int) ≤ (z : Int) := by omega
                          have HB' : Hid (InB h VV x1 k (q + 1) false) := HZ.out false (by simp [t2])
                          clear t1
                          go_wp2_with fail
                          go_quiet (fail)
                          go_wp2_with fail
                          refine ⟨?relG, ?meaG⟩
                          case relG => exact ⟨q + 1, false, by omega, rfl, by first | go_num | simp, HB', below_drewN hbq _⟩
                          case meaG => simp [intOf]; omega
                      · have i1 : (z1 == x1) = false := beq_eq_false_iff_ne.2 t1
                        have HB' : Hid (InB h VV x1 k (q + 1) false) := HZ.out false (by simp [t1])
                        go_wp2_with fail
                        go_quiet (fail)
                        go_wp2_with fail
                        refine ⟨?relH, ?meaH⟩
                        case relH => exact ⟨q + 1, false, by omega, rfl, by first | go_num | simp, HB', below_drewN hbq _⟩
                        case meaH => simp [intOf]; omega
                  · obtain rfl : q = nv := by omega
                    have hbt : bo = true := HB.out.2 HEX.out
                    subst hbt
                    go_wp2_with fail
                    refine ⟨?relI, ?meaI⟩
                    case relI => exact ⟨k + 1, by omega, by first | go_num | simp, hbq⟩
                    case meaI => simp [intOf]; omega
            · go_wp2_with fail
              go_ret
              exact ⟨rfl, hbw⟩
    · obtain ⟨⟨f1, f2⟩, hf⟩ : ∃ y, formedL h = y := ⟨_, rfl⟩
      rw [hf] at HM h2
      simp only at HM h2
      have j2 : ((f2 : Int) != 0) = true := by rw [bne_iff_ne]; omega
      clear hf h2
      obtain ⟨ah, ch, rfl, ih, jh, kh, HCh⟩ := Th.reads
      go_enter Try.func7, Try.ntmps7
      go_wp2_with fail
      refine (HSh.out _ (Below.refl w.heap.size w)).mono ?_
      rintro e w1 ⟨rfl, b1⟩
      have B1 := bel_trans (Below.refl w.heap.size w) b1
      go_wp2_with fail
      refine (HF.out _ B1).mono ?_
      rintro e w2 ⟨rfl, b2⟩
      have B2 := bel_trans B1 b2
      go_wp2_with fail
      refine (HM.out _ B2).mono ?_
      rintro e w3 ⟨rfl, b3⟩
      have B3 := bel_trans B2 b3
      go_wp2_with fail
      go_ret
      exact ⟨rfl, B3⟩
  · obtain ⟨⟨f1, f2⟩, hf⟩ : ∃ y, formedL h = y := ⟨_, rfl⟩
    rw [hf] at HM
    simp only at HM
    clear hf
    rw [decide_eq_false h1] at HF
    obtain ⟨ah, ch, rfl, ih, jh, kh, HCh⟩ := Th.reads
    go_enter Try.func7, Try.ntmps7
    go_wp2_with fail
    refine (HSh.out _ (Below.refl w.heap.size w)).mono ?_
    rintro e w1 ⟨rfl, b1⟩
    have B1 := bel_trans (Below.refl w.heap.size w) b1
    go_wp2_with fail
    refine (HF.out _ B1).mono ?_
    rintro e w2 ⟨rfl, b2⟩
    have B2 := bel_trans B1 b2
    go_wp2_with fail
    refine (HM.out _ B2).mono ?_
    rintro e w3 ⟨rfl, b3⟩
    have B3 := bel_trans B2 b3
    go_wp2_with fail
    go_ret
    exact ⟨rfl, B3⟩
end Go.Proofs.Ytpmcmohdhicfcaa
