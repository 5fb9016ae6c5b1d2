/-
  The walk of ChainGrows.
-/
import Derived.Test.YtgickejfcmnaiaaDoorZGrow4
import Derived.Test.YtgickejfcmnaiaaDoorZR4Same
namespace Go.Proofs.YtgickejfcmnaiaaDoor
set_option maxRecDepth 100000
open Go.RowKit
set_option linter.unusedVariables false
attribute [local go_sem] ba_size
set_option maxHeartbeats 4000000 in
theorem grows4_walk (w : World) (vl : Value) (l : List (List UInt8)) (Tl : IsTxt w vl l) (Bl : ∀ s ∈ l, s.length ≤ 140737488351232) (Nl : l.length ≤ 8796093021952) (Ql : vl = .slice none 0 0 ∨ ∃ ad n c, vl = .slice (some ad) n c) (b : List UInt8) (lb : b.length ≤ 140737488351232) (hG : G w) :
    Calls Tryd.prog 6 #[vl, .string ⟨b.toArray⟩] w fun e w' => e = .returned (.bool true) ∧ Below w.heap.size w w' := by
  have hg3 := hG.size
  have HSh : Hid (∀ W, Below w.heap.size w W → Calls Tryd.prog 11 #[] W fun e w' => e = .returned (.bool true) ∧ Below W.heap.size W w') := fun W h => shown4_any W (hG.below h hg3)
  have HFl : Hid (∀ W, Below w.heap.size w W → Calls Tryd.prog 12 #[vl] W fun e w' => e = .returned (.bool (few4L l)) ∧ Below W.heap.size W w') := fun W h => few4_any l vl W (Tl.below h)
  have HH : Hid (∀ W, Below w.heap.size w W → Calls Tryd.prog 17 #[vl] W fun e w' => e = .returned (.tuple #[.string ⟨(headL sumL l).1.toArray⟩, .int .i64 ((headL sumL l).2 : Int)]) ∧ Below W.heap.size W w') := fun W h => phead_any l vl W (hG.below h hg3) (Tl.below h)
  have HL : Hid (∀ W, Below w.heap.size w W → Calls Tryd.prog 19 #[vl] W fun e w' => LnRes W (linksL sumL l) e w') := fun W h => plinks_any l vl W (hG.below h hg3) (Tl.below h) (by omega)
  obtain ⟨i0', hi', hz0, hz1, hz2⟩ := info_parts str_info
  rw [headL_R] at HH
  obtain ⟨aa, ca, rfl, hc1, hc2, hc3, HC⟩ := Tl.some_at
  have LM : Hid (∀ W v, Below w.heap.size w W → IsTxt W v (l ++ [b]) → Calls Tryd.prog 19 #[v] W fun e w' => LnRes W (linksL sumL (l ++ [b])) e w') := fun W v h hi => plinks_any (l ++ [b]) v W (hG.below h hg3) hi (by rw [List.length_append]; simp; omega)
  have HM := fun h e => links_more l b h e
  have hsm := links_bound l
  have hsm2 := links_bound (l ++ [b])
  have hlk : ∀ h, headF sumL [] l = some h → linksL sumL l = (linksF sumL [] l, 0) := fun h e => by unfold linksL; rw [e]
  have hxl := linksF_len sumL l []
  have HT : Hid (∀ (W : World) B v m, W.ownsRow B 9 1 v m (strV l ++ [.string ⟨b.toArray⟩]) → IsTxt W v (l ++ [b])) := fun W B v m ho => by
    have hm := ho.1
    rw [List.length_append, strV_length] at hm
    refine IsTxt.own (n := m) (B := B) (by rw [strV_snoc]; exact ho) (by simp at hm; omega) (fun t ht => ?_)
    rcases List.mem_append.1 ht with h | h
    · have := Bl t h; omega
    · rw [List.mem_singleton] at h; rw [h]; omega
  clear Tl
  obtain ⟨n, hn⟩ : ∃ n, l.length = n := ⟨_, rfl⟩
  have HN : Hid (l.length = n) := hn
  rw [hn] at Nl hc1 hc3 HFl HH HL Ql ⊢
  clear hn
  rcases Ql with hq | ⟨ad, n', c', hq⟩
  · simp only [Value.slice.injEq] at hq
    obtain ⟨rfl, hn0, rfl⟩ := hq
    obtain rfl : l = [] := List.length_eq_zero_iff.1 (HN.out.trans hn0)
    subst hn0
    clear HC HN HT HM hsm hsm2 hlk hxl
    change Hid (∀ W, Below w.heap.size w W → Calls _ _ _ W fun e w' => e = .returned (.tuple #[.string ⟨#[]⟩, .int .i64 0]) ∧ Below W.heap.size W w') at HH
    change Hid (∀ W, Below w.heap.size w W → Calls _ _ _ W fun e w' => e = .returned (.bool true) ∧ Below W.heap.size W w') at HFl
    change Hid (∀ W, Below w.heap.size w W → Calls _ _ _ W fun e w' => LnRes W ([], 0) e w') at HL
    change Hid (∀ W v, Below w.heap.size w W → IsTxt W v [b] → Calls _ _ _ W fun e w' => LnRes W (linksL sumL [b]) e w') at LM
    by_cases hb : 65535 < b.length
    · have jb : (65535 : Int) < (b.length : Int) := by omega
      obtain ⟨⟨X2, m2⟩, hX2⟩ : ∃ z, linksL sumL [b] = z := ⟨_, rfl⟩
      rw [hX2] at LM
      clear hX2
      go_enter Tryd.func6, Tryd.ntmps6
      go_wp2_with fail
      refine (HSh.out w (Below.refl _ _)).mono ?_
      rintro e w1 ⟨rfl, b1⟩
      have B1 := bel_trans (Below.refl _ _) b1
      go_wp2_with fail
      refine (HFl.out w1 B1).mono ?_
      rintro e w2 ⟨rfl, b2⟩
      have B2 := bel_trans B1 b2
      go_wp2_with fail
      refine (HH.out w2 B2).mono ?_
      rintro e w3 ⟨rfl, b3⟩
      have B3 := bel_trans B2 b3
      go_wp2_with fail
      refine (HL.out w3 B3).mono ?_
      rintro e w4 hres4
      obtain ⟨r1, rfl, b4, own1⟩ := hres4
      have B4 := bel_trans B3 b4
      have hcap := cap_cut w4
      obtain ⟨cap6, hc6⟩ : ∃ c, (Question.appendCap 1 0 9).cut (w4.tape w4.drawn (Question.appendCap 1 0 9)) = c := ⟨_, rfl⟩
      rw [hc6] at hcap
      have T6 := fun zs => txt_six w4 b cap6 zs (by omega) hcap.1 hcap.2
      have C6 := fun zs => bel_six w4 b zs
      go_wp2_with fail
      clear hc6
      obtain ⟨zs, hzs⟩ : ∃ zs, Builtin.zeroCells #[.string ⟨#[]⟩] (cap6 - 1) = zs := ⟨_, rfl⟩
      rw [hzs]
      clear hzs
      have C6' := C6 zs
      have T6' := T6 zs
      have HV := LM.out _ _ (bel_trans B4 C6') T6'
      obtain ⟨W6, hW6⟩ : ∃ W6, (((w4.alloc (.cells #[] 9)).alloc (.cells #[.string ⟨b.toArray⟩] 9)).alloc (.cells (#[.string ⟨b.toArray⟩] ++ zs) 9)).drew = W6 := ⟨_, rfl⟩
      rw [hW6] at C6' HV ⊢
      clear hW6 T6 C6 T6'
      have B6 := bel_trans B4 C6'
      refine HV.mono ?_
      rintro e w7 hres7
      obtain ⟨r2, rfl, b7, own2⟩ := hres7
      have B7 := bel_trans B6 b7
      go_wp2_with fail
      go_ret
      exact ⟨rfl, B7⟩
    · have jb : ¬ (65535 : Int) < (b.length : Int) := by omega
      rw [links_b b (by omega)] at LM
      have SM : Hid (∀ W r1 r2, IsLnk W r1 [] → IsLnk W r2 [] → Calls Tryd.prog 21 #[r1, r2] W fun e w' => e = .returned (.bool true) ∧ Below W.heap.size W w') := fun W r1 r2 h1 h2 => by
        have := lsame_any r1 r2 [] [] W h1 h2
        rw [decide_eq_true rfl] at this
        exact this
      have ebb : (b == b) = true := beq_self_eq_true b
      clear hb
      go_enter Tryd.func6, Tryd.ntmps6
      go_wp2_with fail
      refine (HSh.out w (Below.refl _ _)).mono ?_
      rintro e w1 ⟨rfl, b1⟩
      have B1 := bel_trans (Below.refl _ _) b1
      go_wp2_with fail
      refine (HFl.out w1 B1).mono ?_
      rintro e w2 ⟨rfl, b2⟩
      have B2 := bel_trans B1 b2
      go_wp2_with fail
      refine (HH.out w2 B2).mono ?_
      rintro e w3 ⟨rfl, b3⟩
      have B3 := bel_trans B2 b3
      go_wp2_with fail
      refine (HL.out w3 B3).mono ?_
      rintro e w4 hres4
      obtain ⟨r1, rfl, b4, own1⟩ := hres4
      have B4 := bel_trans B3 b4
      have K0 : IsLnk w4 r1 [] := IsLnk.own own1 (by show 0 ≤ _; omega) (fun t ht => by cases ht)
      obtain ⟨ra, rc, rfl, ra1, ra2, ra3, _⟩ := K0.some_at
      simp only [List.length_nil] at K0 ra1 ra3 ⊢
      have HK1 : Hid (IsLnk w4 (.slice ra 0 rc) []) := K0
      clear K0 own1
      have hcap := cap_cut w4
      obtain ⟨cap6, hc6⟩ : ∃ c, (Question.appendCap 1 0 9).cut (w4.tape w4.drawn (Question.appendCap 1 0 9)) = c := ⟨_, rfl⟩
      rw [hc6] at hcap
      have T6 := fun zs => txt_six w4 b cap6 zs (by omega) hcap.1 hcap.2
      have C6 := fun zs => bel_six w4 b zs
      go_wp2_with fail
      clear hc6
      obtain ⟨zs, hzs⟩ : ∃ zs, Builtin.zeroCells #[.string ⟨#[]⟩] (cap6 - 1) = zs := ⟨_, rfl⟩
      rw [hzs]
      clear hzs
      have C6' := C6 zs
      have T6' := T6 zs
      have HV := LM.out _ _ (bel_trans B4 C6') T6'
      obtain ⟨W6, hW6⟩ : ∃ W6, (((w4.alloc (.cells #[] 9)).alloc (.cells #[.string ⟨b.toArray⟩] 9)).alloc (.cells (#[.string ⟨b.toArray⟩] ++ zs) 9)).drew = W6 := ⟨_, rfl⟩
      rw [hW6] at C6' HV ⊢
      clear hW6 T6 C6 T6'
      have B6 := bel_trans B4 C6'
      refine HV.mono ?_
      rintro e w7 hres7
      obtain ⟨r2, rfl, b7, own2⟩ := hres7
      have B7 := bel_trans B6 b7
      have K2 : IsLnk w7 r2 [([], b)] := IsLnk.own own2 (by show 1 ≤ _; omega) (fun t ht => by rw [List.mem_singleton] at ht; subst ht; simp; omega)
      obtain ⟨ka, kc, rfl, hk1, hk2, hk3, HCK⟩ := K2.some_at
      obtain ⟨gb, go, rfl, hgb, g1, g2⟩ := HCK.out 0 (by simp)
      simp only [Nat.zero_mul, Nat.add_zero, List.getElem_cons_zero] at g1 g2
      have K3 : IsLnk w7 (.slice (some ⟨gb, go, none⟩) 0 kc) [] := K2.take 0 (by simp)
      simp only [List.length_cons, List.length_nil] at hk1 hk3 ⊢
      have HK3 : Hid (IsLnk w7 (.slice (some ⟨gb, go, none⟩) 0 kc) []) := K3
      have HK4 : Hid (IsLnk w7 (.slice ra 0 rc) []) := (HK1.out.below C6').below b7
      have nk : (0 : Int) ≤ (kc : Int) := by omega
      clear K2 K3 HCK own2 HK1
      go_wp2_with fail
      refine (SM.out w7 _ _ HK4.out HK3.out).mono ?_
      rintro e w8 ⟨rfl, b8⟩
      have B8 := bel_trans B7 b8
      have f1 := (b8.cell (p := ⟨gb, go, none⟩) hgb).trans g1
      have f2 := (b8.cell (p := ⟨gb, go + 1, none⟩) hgb).trans g2
      go_wp2_with fail
      go_ret
      exact ⟨rfl, B8⟩
  · simp only [Value.slice.injEq] at hq
    obtain ⟨rfl, -, -⟩ := hq
    cases fl : few4L l with
    | false =>
      rw [fl] at HFl
      obtain ⟨R, hR⟩ : ∃ R, headR (headF sumL [] l) = R := ⟨_, rfl⟩
      rw [hR] at HH
      clear hR fl
      obtain ⟨⟨X1, m1⟩, hX1⟩ : ∃ z, linksL sumL l = z := ⟨_, rfl⟩
      obtain ⟨⟨X2, m2⟩, hX2⟩ : ∃ z, linksL sumL (l ++ [b]) = z := ⟨_, rfl⟩
      rw [hX1] at HL
      rw [hX2] at LM
      clear hX1 hX2 HM hsm hsm2 hlk hxl
      go_enter Tryd.func6, Tryd.ntmps6
      go_wp2_with fail
      refine (HSh.out w (Below.refl _ _)).mono ?_
      rintro e w1 ⟨rfl, b1⟩
      have B1 := bel_trans (Below.refl _ _) b1
      go_wp2_with fail
      refine (HFl.out w1 B1).mono ?_
      rintro e w2 ⟨rfl, b2⟩
      have B2 := bel_trans B1 b2
      go_wp2_with fail
      refine (HH.out w2 B2).mono ?_
      rintro e w3 ⟨rfl, b3⟩
      have B3 := bel_trans B2 b3
      go_wp2_with fail
      refine (HL.out w3 B3).mono ?_
      rintro e w4 hres4
      obtain ⟨r1, rfl, b4, own1⟩ := hres4
      have B4 := bel_trans B3 b4
      go_wp2_with (at_builtin; refine wpList_append_own _ rfl _ _ 22 rfl w4.heap.size 9 i0' (.string ByteArray.empty) 1 16 Tryd.underlying22 hi' hz0 hz1 hz2 rfl (by decide) _ _ _ rfl (own_empty w4 9 1) ad n ca (strV l) rfl ?c1 ?c2 ?c3 ?c4 ?c5 ?c6 ?_)
      case c1 => rw [strV_length, HN.out, Nat.mul_one]
      case c2 => exact str_cells2 HC.out B4 _
      case c3 => exact str_one l
      case c4 => unfold maxLen; omega
      case c5 => omega
      case c6 => simp
      intro v5 W5 own5 gr5 _
      have C5 : Below w4.heap.size w4 W5 := ((Below.refl _ w4).alloc (Nat.le_refl _) _).grown gr5 (by simp) (fun j hj => ((own_empty w4 9 1).lt j hj).1)
      clear gr5
      go_wp2_with (at_builtin; refine wpList_append_own _ rfl _ _ 22 rfl w4.heap.size 9 i0' (.string ByteArray.empty) 1 16 Tryd.underlying22 hi' hz0 hz1 hz2 rfl (by decide) _ _ _ rfl (own5.alloc _) ⟨W5.heap.size, 0, none⟩ 1 1 [.string ⟨b.toArray⟩] rfl rfl ?d1 ?d2 ?d3 ?d4 ?d5 ?_)
      case d1 =>
        intro j u hj
        match j, hj with
        | 0, hj => simp at hj; subst hj; simp [Addr.add]
      case d2 => intro u hu; simp at hu; subst hu; rfl
      case d3 => unfold maxLen; omega
      case d4 => omega
      case d5 => have := C5.size; simp at this ⊢; omega
      intro v6 W6 own6 gr6 _
      have C6 : Below w4.heap.size w4 W6 := (C5.alloc C5.size _).grown gr6 (by have := C5.size; simp at this ⊢; omega) (fun j hj => (own5.lt j hj).1)
      have B6 := bel_trans B4 C6
      have T6 : IsTxt W6 v6 (l ++ [b]) := HT.out W6 w4.heap.size v6 (n + 1) own6
      clear gr6 own6
      go_wp2_with fail
      refine (LM.out W6 _ B6 T6).mono ?_
      rintro e w7 hres7
      obtain ⟨r2, rfl, b7, own2⟩ := hres7
      have B7 := bel_trans B6 b7
      go_wp2_with fail
      go_ret
      exact ⟨rfl, B7⟩
    | true =>
      rw [fl] at HFl
      have hf2 := few4_len fl
      cases hd : headF sumL [] l with
      | none =>
        rw [hd] at HH
        change Hid (∀ W, Below w.heap.size w W → Calls _ _ _ W fun e w' => e = .returned (.tuple #[.string ⟨#[]⟩, .int .i64 4]) ∧ Below W.heap.size W w') at HH
        clear hd fl
        obtain ⟨⟨X1, m1⟩, hX1⟩ : ∃ z, linksL sumL l = z := ⟨_, rfl⟩
        obtain ⟨⟨X2, m2⟩, hX2⟩ : ∃ z, linksL sumL (l ++ [b]) = z := ⟨_, rfl⟩
        rw [hX1] at HL
        rw [hX2] at LM
        clear hX1 hX2 HM hsm hsm2 hlk hxl
        go_enter Tryd.func6, Tryd.ntmps6
        go_wp2_with fail
        refine (HSh.out w (Below.refl _ _)).mono ?_
        rintro e w1 ⟨rfl, b1⟩
        have B1 := bel_trans (Below.refl _ _) b1
        go_wp2_with fail
        refine (HFl.out w1 B1).mono ?_
        rintro e w2 ⟨rfl, b2⟩
        have B2 := bel_trans B1 b2
        go_wp2_with fail
        refine (HH.out w2 B2).mono ?_
        rintro e w3 ⟨rfl, b3⟩
        have B3 := bel_trans B2 b3
        go_wp2_with fail
        refine (HL.out w3 B3).mono ?_
        rintro e w4 hres4
        obtain ⟨r1, rfl, b4, own1⟩ := hres4
        have B4 := bel_trans B3 b4
        go_wp2_with (at_builtin; refine wpList_append_own _ rfl _ _ 22 rfl w4.heap.size 9 i0' (.string ByteArray.empty) 1 16 Tryd.underlying22 hi' hz0 hz1 hz2 rfl (by decide) _ _ _ rfl (own_empty w4 9 1) ad n ca (strV l) rfl ?c1 ?c2 ?c3 ?c4 ?c5 ?c6 ?_)
        case c1 => rw [strV_length, HN.out, Nat.mul_one]
        case c2 => exact str_cells2 HC.out B4 _
        case c3 => exact str_one l
        case c4 => unfold maxLen; omega
        case c5 => omega
        case c6 => simp
        intro v5 W5 own5 gr5 _
        have C5 : Below w4.heap.size w4 W5 := ((Below.refl _ w4).alloc (Nat.le_refl _) _).grown gr5 (by simp) (fun j hj => ((own_empty w4 9 1).lt j hj).1)
        clear gr5
        go_wp2_with (at_builtin; refine wpList_append_own _ rfl _ _ 22 rfl w4.heap.size 9 i0' (.string ByteArray.empty) 1 16 Tryd.underlying22 hi' hz0 hz1 hz2 rfl (by decide) _ _ _ rfl (own5.alloc _) ⟨W5.heap.size, 0, none⟩ 1 1 [.string ⟨b.toArray⟩] rfl rfl ?d1 ?d2 ?d3 ?d4 ?d5 ?_)
        case d1 =>
          intro j u hj
          match j, hj with
          | 0, hj => simp at hj; subst hj; simp [Addr.add]
        case d2 => intro u hu; simp at hu; subst hu; rfl
        case d3 => unfold maxLen; omega
        case d4 => omega
        case d5 => have := C5.size; simp at this ⊢; omega
        intro v6 W6 own6 gr6 _
        have C6 : Below w4.heap.size w4 W6 := (C5.alloc C5.size _).grown gr6 (by have := C5.size; simp at this ⊢; omega) (fun j hj => (own5.lt j hj).1)
        have B6 := bel_trans B4 C6
        have T6 : IsTxt W6 v6 (l ++ [b]) := HT.out W6 w4.heap.size v6 (n + 1) own6
        clear gr6 own6
        go_wp2_with fail
        refine (LM.out W6 _ B6 T6).mono ?_
        rintro e w7 hres7
        obtain ⟨r2, rfl, b7, own2⟩ := hres7
        have B7 := bel_trans B6 b7
        go_wp2_with fail
        go_ret
        exact ⟨rfl, B7⟩
      | some h =>
        rw [hd] at HH
        change Hid (∀ W, Below w.heap.size w W → Calls _ _ _ W fun e w' => e = .returned (.tuple #[.string ⟨h.toArray⟩, .int .i64 0]) ∧ Below W.heap.size W w') at HH
        by_cases hb : 65535 < b.length
        · have jb : (65535 : Int) < (b.length : Int) := by omega
          clear hd fl
          obtain ⟨⟨X1, m1⟩, hX1⟩ : ∃ z, linksL sumL l = z := ⟨_, rfl⟩
          obtain ⟨⟨X2, m2⟩, hX2⟩ : ∃ z, linksL sumL (l ++ [b]) = z := ⟨_, rfl⟩
          rw [hX1] at HL
          rw [hX2] at LM
          clear hX1 hX2 HM hsm hsm2 hlk hxl
          go_enter Tryd.func6, Tryd.ntmps6
          go_wp2_with fail
          refine (HSh.out w (Below.refl _ _)).mono ?_
          rintro e w1 ⟨rfl, b1⟩
          have B1 := bel_trans (Below.refl _ _) b1
          go_wp2_with fail
          refine (HFl.out w1 B1).mono ?_
          rintro e w2 ⟨rfl, b2⟩
          have B2 := bel_trans B1 b2
          go_wp2_with fail
          refine (HH.out w2 B2).mono ?_
          rintro e w3 ⟨rfl, b3⟩
          have B3 := bel_trans B2 b3
          go_wp2_with fail
          refine (HL.out w3 B3).mono ?_
          rintro e w4 hres4
          obtain ⟨r1, rfl, b4, own1⟩ := hres4
          have B4 := bel_trans B3 b4
          go_wp2_with (at_builtin; refine wpList_append_own _ rfl _ _ 22 rfl w4.heap.size 9 i0' (.string ByteArray.empty) 1 16 Tryd.underlying22 hi' hz0 hz1 hz2 rfl (by decide) _ _ _ rfl (own_empty w4 9 1) ad n ca (strV l) rfl ?c1 ?c2 ?c3 ?c4 ?c5 ?c6 ?_)
          case c1 => rw [strV_length, HN.out, Nat.mul_one]
          case c2 => exact str_cells2 HC.out B4 _
          case c3 => exact str_one l
          case c4 => unfold maxLen; omega
          case c5 => omega
          case c6 => simp
          intro v5 W5 own5 gr5 _
          have C5 : Below w4.heap.size w4 W5 := ((Below.refl _ w4).alloc (Nat.le_refl _) _).grown gr5 (by simp) (fun j hj => ((own_empty w4 9 1).lt j hj).1)
          clear gr5
          go_wp2_with (at_builtin; refine wpList_append_own _ rfl _ _ 22 rfl w4.heap.size 9 i0' (.string ByteArray.empty) 1 16 Tryd.underlying22 hi' hz0 hz1 hz2 rfl (by decide) _ _ _ rfl (own5.alloc _) ⟨W5.heap.size, 0, none⟩ 1 1 [.string ⟨b.toArray⟩] rfl rfl ?d1 ?d2 ?d3 ?d4 ?d5 ?_)
          case d1 =>
            intro j u hj
            match j, hj with
            | 0, hj => simp at hj; subst hj; simp [Addr.add]
          case d2 => intro u hu; simp at hu; subst hu; rfl
          case d3 => unfold maxLen; omega
          case d4 => omega
          case d5 => have := C5.size; simp at this ⊢; omega
          intro v6 W6 own6 gr6 _
          have C6 : Below w4.heap.size w4 W6 := (C5.alloc C5.size _).grown gr6 (by have := C5.size; simp at this ⊢; omega) (fun j hj => (own5.lt j hj).1)
          have B6 := bel_trans B4 C6
          have T6 : IsTxt W6 v6 (l ++ [b]) := HT.out W6 w4.heap.size v6 (n + 1) own6
          clear gr6 own6
          go_wp2_with fail
          refine (LM.out W6 _ B6 T6).mono ?_
          rintro e w7 hres7
          obtain ⟨r2, rfl, b7, own2⟩ := hres7
          have B7 := bel_trans B6 b7
          go_wp2_with fail
          go_ret
          exact ⟨rfl, B7⟩
        · have jb : ¬ (65535 : Int) < (b.length : Int) := by omega
          rw [hlk h hd] at HL hsm
          rw [HM h hd (by omega)] at LM hsm2
          obtain ⟨X, hX⟩ : ∃ X, linksF sumL [] l = X := ⟨_, rfl⟩
          rw [hX] at HL LM hsm hsm2 hxl
          have HXL : Hid (X.length = n) := by show X.length = n; rw [hxl]; exact HN.out
          have KN : Hid (∀ (W W0 : World) r, W.ownsRow W0.heap.size 48 2 r X.length (lnkV X) → IsLnk W r X) := fun W W0 r ho => IsLnk.own ho (by rw [HXL.out]; omega) (fun t ht => by have : t.1.length ≤ 32 ∧ t.2.length ≤ 65535 := hsm t ht; omega)
          have KM : Hid (∀ (W W0 : World) r, W.ownsRow W0.heap.size 48 2 r (X ++ [(h, b)]).length (lnkV (X ++ [(h, b)])) → IsLnk W r (X ++ [(h, b)])) := fun W W0 r ho => IsLnk.own ho (by rw [List.length_append, HXL.out]; simp; omega) (fun t ht => by have : t.1.length ≤ 32 ∧ t.2.length ≤ 65535 := hsm2 t ht; omega)
          have SM : Hid (∀ W r1 r2, IsLnk W r1 X → IsLnk W r2 ((X ++ [(h, b)]).take n) → Calls Tryd.prog 21 #[r1, r2] W fun e w' => e = .returned (.bool true) ∧ Below W.heap.size W w') := fun W r1 r2 h1 h2 => by
            have := lsame_any r1 r2 X ((X ++ [(h, b)]).take n) W h1 h2
            rw [decide_eq_true (by rw [← HXL.out, List.take_left'] <;> rfl)] at this
            exact this
          have HXM : Hid ((X ++ [(h, b)]).length = n + 1) := by show _ = _; rw [List.length_append, HXL.out]; rfl
          have HXG : Hid (∀ h', (X ++ [(h, b)])[n]'h' = (h, b)) := fun h' => by simp [← HXL.out]
          have ehh : (h == h) = true := beq_self_eq_true h
          have ebb : (b == b) = true := beq_self_eq_true b
          have w1n : IntKind.i64.wrap ((n : Int) + 1) = (n : Int) + 1 := by rw [IntKind.wrap_i64]; omega
          have en : (((n : Int) + 1) == ((n : Int) + 1)) = true := beq_self_eq_true _
          clear hd fl HM hsm hsm2 hlk hxl hX hb
          go_enter Tryd.func6, Tryd.ntmps6
          go_wp2_with fail
          refine (HSh.out w (Below.refl _ _)).mono ?_
          rintro e w1 ⟨rfl, b1⟩
          have B1 := bel_trans (Below.refl _ _) b1
          go_wp2_with fail
          refine (HFl.out w1 B1).mono ?_
          rintro e w2 ⟨rfl, b2⟩
          have B2 := bel_trans B1 b2
          go_wp2_with fail
          refine (HH.out w2 B2).mono ?_
          rintro e w3 ⟨rfl, b3⟩
          have B3 := bel_trans B2 b3
          go_wp2_with fail
          refine (HL.out w3 B3).mono ?_
          rintro e w4 hres4
          obtain ⟨r1, rfl, b4, own1⟩ := hres4
          have B4 := bel_trans B3 b4
          have K0 := KN.out w4 _ _ own1
          obtain ⟨ra, rc, rfl, ra1, ra2, ra3, _⟩ := K0.some_at
          simp only [HXL.out] at K0 ra1 ra3 ⊢
          have HK1 : Hid (IsLnk w4 (.slice ra n rc) X) := K0
          clear K0 own1
          go_wp2_with (at_builtin; refine wpList_append_own _ rfl _ _ 22 rfl w4.heap.size 9 i0' (.string ByteArray.empty) 1 16 Tryd.underlying22 hi' hz0 hz1 hz2 rfl (by decide) _ _ _ rfl (own_empty w4 9 1) ad n ca (strV l) rfl ?c1 ?c2 ?c3 ?c4 ?c5 ?c6 ?_)
          case c1 => rw [strV_length, HN.out, Nat.mul_one]
          case c2 => exact str_cells2 HC.out B4 _
          case c3 => exact str_one l
          case c4 => unfold maxLen; omega
          case c5 => omega
          case c6 => simp
          intro v5 W5 own5 gr5 _
          have C5 : Below w4.heap.size w4 W5 := ((Below.refl _ w4).alloc (Nat.le_refl _) _).grown gr5 (by simp) (fun j hj => ((own_empty w4 9 1).lt j hj).1)
          clear gr5
          go_wp2_with (at_builtin; refine wpList_append_own _ rfl _ _ 22 rfl w4.heap.size 9 i0' (.string ByteArray.empty) 1 16 Tryd.underlying22 hi' hz0 hz1 hz2 rfl (by decide) _ _ _ rfl (own5.alloc _) ⟨W5.heap.size, 0, none⟩ 1 1 [.string ⟨b.toArray⟩] rfl rfl ?d1 ?d2 ?d3 ?d4 ?d5 ?_)
          case d1 =>
            intro j u hj
            match j, hj with
            | 0, hj => simp at hj; subst hj; simp [Addr.add]
          case d2 => intro u hu; simp at hu; subst hu; rfl
          case d3 => unfold maxLen; omega
          case d4 => omega
          case d5 => have := C5.size; simp at this ⊢; omega
          intro v6 W6 own6 gr6 _
          have C6 : Below w4.heap.size w4 W6 := (C5.alloc C5.size _).grown gr6 (by have := C5.size; simp at this ⊢; omega) (fun j hj => (own5.lt j hj).1)
          have B6 := bel_trans B4 C6
          have T6 : IsTxt W6 v6 (l ++ [b]) := HT.out W6 w4.heap.size v6 (n + 1) own6
          clear gr6 own6
          go_wp2_with fail
          refine (LM.out W6 _ B6 T6).mono ?_
          rintro e w7 hres7
          obtain ⟨r2, rfl, b7, own2⟩ := hres7
          have B7 := bel_trans B6 b7
          have K2 := KM.out w7 _ _ own2
          have K1 := (HK1.out.below C6).below b7
          obtain ⟨ka, kc, rfl, hk1, hk2, hk3, HCK⟩ := K2.some_at
          simp only [HXM.out] at hk1 hk3 ⊢
          obtain ⟨gb, go, rfl, hgb, g1, g2⟩ := HCK.out n (by rw [HXM.out]; omega)
          rw [HXG.out] at g1 g2
          simp only at g1 g2
          have K3 : IsLnk w7 (.slice (some ⟨gb, go, none⟩) n kc) ((X ++ [(h, b)]).take n) := K2.take n (by rw [HXM.out]; omega)
          have HK3 : Hid (IsLnk w7 (.slice (some ⟨gb, go, none⟩) n kc) ((X ++ [(h, b)]).take n)) := K3
          have HK4 : Hid (IsLnk w7 (.slice ra n rc) X) := K1
          have nk : (n : Int) ≤ (kc : Int) := by omega
          have nk2 : (n : Int) < (n : Int) + 1 := by omega
          clear K1 K2 K3 HCK own2 C5 HK1
          go_wp2_with fail
          refine (SM.out w7 _ _ HK4.out HK3.out).mono ?_
          rintro e w8 ⟨rfl, b8⟩
          have B8 := bel_trans B7 b8
          have f1 := (b8.cell (p := ⟨gb, go + n * 2, none⟩) hgb).trans g1
          have f2 := (b8.cell (p := ⟨gb, go + n * 2 + 1, none⟩) hgb).trans g2
          go_wp2_with fail
          go_ret
          exact ⟨rfl, B8⟩
end Go.Proofs.YtgickejfcmnaiaaDoor
