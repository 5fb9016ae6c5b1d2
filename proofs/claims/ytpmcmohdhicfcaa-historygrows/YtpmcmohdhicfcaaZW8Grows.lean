/-
  The walk of HistoryGrows.
-/
import Derived.Test.YtpmcmohdhicfcaaZShown8
import Derived.Test.YtpmcmohdhicfcaaGE
import Derived.Deep.RegionHeld3
import Derived.BigQuiet
import Derived.Deep.QuietTactic
namespace Go.Proofs.Ytpmcmohdhicfcaa
set_option maxRecDepth 100000
open Go.RowKit
set_option linter.unusedVariables false
attribute [local go_sem] ba_size ba_append ba_get ba_extract
set_option maxHeartbeats 4000000 in
theorem grows8_walk (C : P8C) (w : World) (vh : Value) (h : List Ev) (Th : IsEvs w vh h) (Gh : ∀ x ∈ h, goodE x) (Qh : vh = .slice none 0 0 ∨ ∃ ad n c, vh = .slice (some ad) n c) (t : Int) (gt : goodI t) (kind : Int) :
    Calls Try.prog 8 #[vh, .int .i64 t, .int .i64 kind] w fun e w' => e = .returned (.bool true) ∧ Below w.heap.size w w' := by
  have HSh : Hid (∀ W, Below w.heap.size w W → Calls Try.prog 11 #[] W fun e w' => e = .returned (.bool true) ∧ Below W.heap.size W w') := fun W h => shown8_any C W
  have HF : Hid (∀ W, Below w.heap.size w W → Calls Try.prog 12 #[vh] W fun e w' => e = .returned (.bool (decide (h.length ≤ 300))) ∧ Below W.heap.size W w') := fun W hb => few8_any vh h W (Th.below hb)
  have HM : Hid (∀ W, Below w.heap.size w W → Calls Try.prog 13 #[vh] W fun e w' => e = .returned (.tuple #[.int .i64 ((formedL h).1 : Int), .int .i64 ((formedL h).2 : Int)]) ∧ Below W.heap.size W w') := fun W hb => C.formed h vh W (Th.below hb) Gh
  have HI : Hid (∀ W, Below w.heap.size w W → Calls Try.prog 21 #[vh, .int .i64 t] W fun e w' => e = .returned (.tuple #[lifA (findP h t).1, .bool (findP h t).2]) ∧ Below W.heap.size W w') := fun W hb => C.find h vh W t (Th.below hb) Gh gt
  have HFo : Hid ((findP h t).2 = false → findL h t = none) := fun hh => by
    unfold findP at hh
    cases hf : findL h t with
    | none => rfl
    | some x => rw [hf] at hh; cases hh
  have HOk : Hid ((formedL h).2 = 0 → WF h) := fun hh => (formed_ok h).1 hh
  obtain ⟨⟨f1, f2⟩, hf⟩ : ∃ y, formedL h = y := ⟨_, rfl⟩
  rw [hf] at HM HOk
  obtain ⟨⟨⟨y0, y1, y2, y3⟩, y4⟩, hy⟩ : ∃ y, findP h t = y := ⟨_, rfl⟩
  rw [hy] at HI HFo
  simp only at HM HI HOk HFo
  clear hf hy
  obtain ⟨ah, ch, rfl, ih, jh, kh, HCh⟩ := Th.reads
  obtain ⟨n, hn⟩ : ∃ n, h.length = n := ⟨_, rfl⟩
  have HN : Hid (h.length = n) := hn
  simp only [hn] at HF HM HI Qh ih kh ⊢
  clear hn
  by_cases h1 : n ≤ 300
  · rw [decide_eq_true h1] at HF
    by_cases c1 : f2 = 0
    · subst c1
      by_cases c2 : y4 = false
      · subst c2
        by_cases c3 : ¬ t < 1
        · skip
          by_cases c4 : ¬ 32 < t
          · skip
            by_cases c5 : ¬ kind < 4
            · skip
              by_cases c6 : ¬ 5 < kind
              · skip
                by_cases c7 : ¬ 254 < n
                · have c7' : ¬ (254 : Int) < (n : Int) := by omega
                  have hw := HOk.out rfl
                  have hfn := HFo.out rfl
                  have hk : kind = 4 ∨ kind = 5 := by omega
                  obtain ⟨hw2, hf2⟩ := wf_grow hw t kind (by omega) hk hfn (by have := HN.out; omega)
                  rw [HN.out] at hf2
                  have hle : (h ++ [(1, t, [], []), (kind, t, [], [])]).length = n + 2 := by rw [← HN.out]; simp
                  have G2 : ∀ x ∈ h ++ [(1, t, [], []), (kind, t, [], [])], goodE x := by
                    intro x hx
                    rcases List.mem_append.1 hx with hx | hx
                    · exact Gh x hx
                    · simp at hx
                      unfold goodI at gt
                      rcases hx with rfl | rfl
                      · unfold goodE; simp only [List.length_nil]; omega
                      · unfold goodE; simp only [List.length_nil]; omega
                  have hM2 := fun v W hv => C.formed (h ++ [(1, t, [], []), (kind, t, [], [])]) v W hv G2
                  rw [formed_wf _ hw2, hle] at hM2
                  have hI2 := fun v W hv => C.find (h ++ [(1, t, [], []), (kind, t, [], [])]) v W t hv G2 gt
                  rw [findP_of hf2] at hI2
                  have HL2 : Hid (recV evV (h ++ [(1, t, [], []), (kind, t, [], [])]) = recV evV h ++ [.int .i64 1, .int .i64 t, .string ⟨#[]⟩, .string ⟨#[]⟩, .int .i64 kind, .int .i64 t, .string ⟨#[]⟩, .string ⟨#[]⟩]) := by show _ = _; rw [recV_append]; rfl
                  obtain ⟨KK, hKK⟩ : ∃ y, h ++ [(1, t, [], []), (kind, t, [], [])] = y := ⟨_, rfl⟩
                  rw [hKK] at hM2 hI2 HL2
                  have HM2 : Hid (∀ v W, IsEvs W v KK → Calls Try.prog 13 #[v] W fun e w' => e = .returned (.tuple #[.int .i64 ((n + 2 : Nat) : Int), .int .i64 0]) ∧ Below W.heap.size W w') := fun v W hv => hM2 v W hv
                  have HI2 : Hid (∀ v W, IsEvs W v KK → Calls Try.prog 21 #[v, .int .i64 t] W fun e w' => e = .returned (.tuple #[.agg #[.int .i64 t, .int .i64 (n : Int), .int .i64 ((n + 1 : Nat) : Int), .bool (decide (kind = 4))], .bool true]) ∧ Below W.heap.size W w') := fun v W hv => hI2 v W hv
                  clear hw hfn hw2 hf2 G2 hM2 hI2 hKK hle
                  obtain ⟨i0, hi, hz0, hz1, hz2⟩ := info_parts ev_info7
                  obtain ⟨d, hd⟩ : ∃ d, decide (kind = 4) = d := ⟨_, rfl⟩
                  have ed : (kind == 4) = d := by rw [← hd]; rcases hk with rfl | rfl <;> rfl
                  rw [hd] at HI2
                  clear hd hk
                  rcases Qh with hq | ⟨ad, m, c, hq⟩
                  · simp only [Value.slice.injEq] at hq
                    obtain ⟨rfl, hl0, rfl⟩ := hq
                    subst hl0
                    have H0 : Hid (h = []) := List.length_eq_zero_iff.1 HN.out
                    have HM3 : Hid (∀ v W, IsEvs W v KK → Calls Try.prog 13 #[v] W fun e w' => e = .returned (.tuple #[.int .i64 2, .int .i64 0]) ∧ Below W.heap.size W w') := HM2.out
                    have HI3 : Hid (∀ v W, IsEvs W v KK → Calls Try.prog 21 #[v, .int .i64 t] W fun e w' => e = .returned (.tuple #[.agg #[.int .i64 t, .int .i64 0, .int .i64 1, .bool d], .bool true]) ∧ Below W.heap.size W w') := HI2.out
                    rw [H0.out] at HL2
                    have HL3 : Hid (recV evV KK = [.int .i64 1, .int .i64 t, .string ⟨#[]⟩, .string ⟨#[]⟩, .int .i64 kind, .int .i64 t, .string ⟨#[]⟩, .string ⟨#[]⟩]) := HL2.out
                    go_enter Try.func8, Try.ntmps8
                    go_wp2_with fail
                    refine (HSh.out _ (Below.refl w.heap.size w)).mono ?_
                    rintro e w1 ⟨rfl, b1⟩
                    have B1 := bel_trans (Below.refl w.heap.size w) b1
                    go_wp2_with fail
                    refine (HF.out _ B1).mono ?_
                    rintro e w2 ⟨rfl, b2⟩
                    have B2 := bel_trans B1 b2
                    go_wp2_with fail
                    refine (HM.out _ B2).mono ?_
                    rintro e w3 ⟨rfl, b3⟩
                    have B3 := bel_trans B2 b3
                    go_wp2_with fail
                    refine (HI.out _ B3).mono ?_
                    rintro e w4 ⟨rfl, b4⟩
                    have B4 := bel_trans B3 b4
                    have X_y := SBox.new w4 37 #[.int .i64 y0, .int .i64 (y1 : Int), .int .i64 (y2 : Int), .bool y3]
                    have B4' := B4.alloc B4.size (.cells #[.int .i64 y0, .int .i64 (y1 : Int), .int .i64 (y2 : Int), .bool y3] 37)
                    have f_y0_4 := X_y.cell 0 _ rfl
                    have f_y1_4 := X_y.cell 1 _ rfl
                    have f_y2_4 := X_y.cell 2 _ rfl
                    have f_y3_4 := X_y.cell 3 _ rfl
                    have E0 : ((w4.alloc (.cells #[.int .i64 y0, .int .i64 (y1 : Int), .int .i64 (y2 : Int), .bool y3] 37)).alloc (.cells #[] 50)).ownsRow (w4.heap.size + 1) 50 4 (.slice (some ⟨w4.heap.size + 1, 0, none⟩) 0 0) 0 [] := by
                      have := own_empty8 (w4.alloc (.cells #[.int .i64 y0, .int .i64 (y1 : Int), .int .i64 (y2 : Int), .bool y3] 37)) 50 4
                      rw [show (w4.alloc (.cells #[.int .i64 y0, .int .i64 (y1 : Int), .int .i64 (y2 : Int), .bool y3] 37)).heap.size = w4.heap.size + 1 by simp] at this
                      exact this
                    have CA := B4'.alloc B4'.size (.cells #[] 50)
                    have sz := B4.size
                    go_wp2_with (at_builtin; refine wpList_append_own _ rfl _ _ 22 rfl (w4.heap.size + 1) 50 i0 (.agg #[.int .i64 0, .int .i64 0, .string ByteArray.empty, .string ByteArray.empty]) 4 48 Try.underlying22 hi hz0 hz1 hz2 rfl (by decide) _ _ _ rfl (E0.alloc _) ⟨w4.heap.size + 1 + 1, 0, none⟩ 2 2 [.int .i64 1, .int .i64 t, .string ⟨#[]⟩, .string ⟨#[]⟩, .int .i64 kind, .int .i64 t, .string ⟨#[]⟩, .string ⟨#[]⟩] rfl rfl ?e1na ?e2na ?e3na ?e4na ?e5na ?_)
                    try
                      case e1na =>
                        intro j u hj
                        match j, hj with
                        | 0, hj => simp at hj; subst hj; first | (simp [Addr.add]; done) | exact cell_new7 (by simp) rfl
                        | 1, hj => simp at hj; subst hj; first | (simp [Addr.add]; done) | exact cell_new7 (by simp) rfl
                        | 2, hj => simp at hj; subst hj; first | (simp [Addr.add]; done) | exact cell_new7 (by simp) rfl
                        | 3, hj => simp at hj; subst hj; first | (simp [Addr.add]; done) | exact cell_new7 (by simp) rfl
                        | 4, hj => simp at hj; subst hj; first | (simp [Addr.add]; done) | exact cell_new7 (by simp) rfl
                        | 5, hj => simp at hj; subst hj; first | (simp [Addr.add]; done) | exact cell_new7 (by simp) rfl
                        | 6, hj => simp at hj; subst hj; first | (simp [Addr.add]; done) | exact cell_new7 (by simp) rfl
                        | 7, hj => simp at hj; subst hj; first | (simp [Addr.add]; done) | exact cell_new7 (by simp) rfl
                    try
                      case e2na => intro u hu; simp at hu; rcases hu with rfl | rfl | rfl | rfl | rfl | rfl | rfl | rfl <;> rfl
                    try
                      case e2na => exact ⟨rfl, rfl, rfl, rfl⟩
                    try
                      case e3na => unfold maxLen; omega
                    try
                      case e4na => omega
                    try
                      case e5na => first | (simp; done) | (simp; omega) | (simp at sz ⊢; omega)
                    intro v9 w9 own9 g9 _
                    have C9 : Below w.heap.size w w9 := (CA.alloc CA.size _).grown g9 (by have := CA.size; simp at this ⊢; omega) (fun j hj => by have := (E0.lt j hj).1; omega)
                    try rw [List.nil_append] at own9
                    try rw [Nat.zero_add] at own9
                    have own10 := own9
                    rw [show _ = recV evV KK from HL3.out.symm] at own10
                    obtain ⟨gk, ck, hv9, hck⟩ := own_slice9 own10
                    subst hv9
                    have Tk := IsRec.own (L := KK) evV_len (by omega) own10 (by omega)
                    go_wp2_with fail
                    refine (HM3.out _ _ Tk).mono ?_
                    rintro e wa ⟨rfl, ba⟩
                    have Ba := bel_trans C9 ba
                    replace Tk := Tk.below ba
                    go_wp2_with fail
                    refine (HI3.out _ _ Tk).mono ?_
                    rintro e wb ⟨rfl, bb⟩
                    have Bb := bel_trans Ba bb
                    have X_l := SBox.new wb 37 #[.int .i64 t, .int .i64 0, .int .i64 1, .bool d]
                    have Bc := Bb.alloc Bb.size (.cells #[.int .i64 t, .int .i64 0, .int .i64 1, .bool d] 37)
                    have l0 := X_l.cell 0 _ rfl
                    have l1 := X_l.cell 1 _ rfl
                    have l2 := X_l.cell 2 _ rfl
                    have l3 := X_l.cell 3 _ rfl
                    have q1 : ((2 : Int) == (2 : Int)) = true := beq_self_eq_true _
                    have q2 : ((0 : Int) == 0) = true := beq_self_eq_true _
                    have q3 : ((1 : Int) == 0 + 1) = true := rfl
                    have q4 : (d == d) = true := beq_self_eq_true _
                    go_wp2_with fail
                    go_ret
                    exact ⟨rfl, Bc⟩
                  · simp only [Value.slice.injEq] at hq
                    obtain ⟨rfl, hm0, rfl⟩ := hq
                    clear hm0
                    go_enter Try.func8, Try.ntmps8
                    go_wp2_with fail
                    refine (HSh.out _ (Below.refl w.heap.size w)).mono ?_
                    rintro e w1 ⟨rfl, b1⟩
                    have B1 := bel_trans (Below.refl w.heap.size w) b1
                    go_wp2_with fail
                    refine (HF.out _ B1).mono ?_
                    rintro e w2 ⟨rfl, b2⟩
                    have B2 := bel_trans B1 b2
                    go_wp2_with fail
                    refine (HM.out _ B2).mono ?_
                    rintro e w3 ⟨rfl, b3⟩
                    have B3 := bel_trans B2 b3
                    go_wp2_with fail
                    refine (HI.out _ B3).mono ?_
                    rintro e w4 ⟨rfl, b4⟩
                    have B4 := bel_trans B3 b4
                    have X_y := SBox.new w4 37 #[.int .i64 y0, .int .i64 (y1 : Int), .int .i64 (y2 : Int), .bool y3]
                    have B4' := B4.alloc B4.size (.cells #[.int .i64 y0, .int .i64 (y1 : Int), .int .i64 (y2 : Int), .bool y3] 37)
                    have f_y0_4 := X_y.cell 0 _ rfl
                    have f_y1_4 := X_y.cell 1 _ rfl
                    have f_y2_4 := X_y.cell 2 _ rfl
                    have f_y3_4 := X_y.cell 3 _ rfl
                    have E0 : ((w4.alloc (.cells #[.int .i64 y0, .int .i64 (y1 : Int), .int .i64 (y2 : Int), .bool y3] 37)).alloc (.cells #[] 50)).ownsRow (w4.heap.size + 1) 50 4 (.slice (some ⟨w4.heap.size + 1, 0, none⟩) 0 0) 0 [] := by
                      have := own_empty8 (w4.alloc (.cells #[.int .i64 y0, .int .i64 (y1 : Int), .int .i64 (y2 : Int), .bool y3] 37)) 50 4
                      rw [show (w4.alloc (.cells #[.int .i64 y0, .int .i64 (y1 : Int), .int .i64 (y2 : Int), .bool y3] 37)).heap.size = w4.heap.size + 1 by simp] at this
                      exact this
                    have CA := B4'.alloc B4'.size (.cells #[] 50)
                    have sz := B4.size
                    go_wp2_with (at_builtin; refine wpList_append_own _ rfl _ _ 22 rfl (w4.heap.size + 1) 50 i0 (.agg #[.int .i64 0, .int .i64 0, .string ByteArray.empty, .string ByteArray.empty]) 4 48 Try.underlying22 hi hz0 hz1 hz2 rfl (by decide) _ _ _ rfl (E0) ad n ch (recV evV h) rfl (by rw [recV_length evV_len, HN.out]) ?g1 ?g2 ?g3 ?g4 ?g5 ?_)
                    try
                      case g1 => exact IsRec.src evV_len (by omega) Th CA
                    try
                      case g2 => exact recV_one evV_one h
                    try
                      case g3 => unfold maxLen; omega
                    try
                      case g4 => omega
                    try
                      case g5 => simp
                    intro v8 w8 own8 g8 _
                    have C8 : Below w.heap.size w w8 := CA.grown g8 (by have := CA.size; simp at this ⊢; omega) (fun j hj => by have := (E0.lt j hj).1; omega)
                    have D8 : w4.heap.size + 1 ≤ w8.heap.size := by have := g8.size; simp at this; omega
                    go_wp2_with (at_builtin; refine wpList_append_own _ rfl _ _ 22 rfl (w4.heap.size + 1) 50 i0 (.agg #[.int .i64 0, .int .i64 0, .string ByteArray.empty, .string ByteArray.empty]) 4 48 Try.underlying22 hi hz0 hz1 hz2 rfl (by decide) _ _ _ rfl (own8.alloc _) ⟨w8.heap.size, 0, none⟩ 2 2 [.int .i64 1, .int .i64 t, .string ⟨#[]⟩, .string ⟨#[]⟩, .int .i64 kind, .int .i64 t, .string ⟨#[]⟩, .string ⟨#[]⟩] rfl rfl ?e1nb ?e2nb ?e3nb ?e4nb ?e5nb ?_)
                    try
                      case e1nb =>
                        intro j u hj
                        match j, hj with
                        | 0, hj => simp at hj; subst hj; first | (simp [Addr.add]; done) | exact cell_new7 (by simp) rfl
                        | 1, hj => simp at hj; subst hj; first | (simp [Addr.add]; done) | exact cell_new7 (by simp) rfl
                        | 2, hj => simp at hj; subst hj; first | (simp [Addr.add]; done) | exact cell_new7 (by simp) rfl
                        | 3, hj => simp at hj; subst hj; first | (simp [Addr.add]; done) | exact cell_new7 (by simp) rfl
                        | 4, hj => simp at hj; subst hj; first | (simp [Addr.add]; done) | exact cell_new7 (by simp) rfl
                        | 5, hj => simp at hj; subst hj; first | (simp [Addr.add]; done) | exact cell_new7 (by simp) rfl
                        | 6, hj => simp at hj; subst hj; first | (simp [Addr.add]; done) | exact cell_new7 (by simp) rfl
                        | 7, hj => simp at hj; subst hj; first | (simp [Addr.add]; done) | exact cell_new7 (by simp) rfl
                    try
                      case e2nb => intro u hu; simp at hu; rcases hu with rfl | rfl | rfl | rfl | rfl | rfl | rfl | rfl <;> rfl
                    try
                      case e2nb => exact ⟨rfl, rfl, rfl, rfl⟩
                    try
                      case e3nb => unfold maxLen; omega
                    try
                      case e4nb => omega
                    try
                      case e5nb => first | (simp; done) | (simp; omega) | (simp at sz ⊢; omega)
                    intro v9 w9 own9 g9 _
                    have C9 : Below w.heap.size w w9 := (C8.alloc C8.size _).grown g9 (by have := C8.size; simp at this ⊢; omega) (fun j hj => by have := (own8.lt j hj).1; omega)
                    try rw [List.nil_append] at own9
                    try rw [Nat.zero_add] at own9
                    have own10 := own9
                    rw [show _ = recV evV KK from HL2.out.symm] at own10
                    obtain ⟨gk, ck, hv9, hck⟩ := own_slice9 own10
                    subst hv9
                    have Tk := IsRec.own (L := KK) evV_len (by omega) own10 (by omega)
                    go_wp2_with fail
                    refine (HM2.out _ _ Tk).mono ?_
                    rintro e wa ⟨rfl, ba⟩
                    have Ba := bel_trans C9 ba
                    replace Tk := Tk.below ba
                    go_wp2_with fail
                    refine (HI2.out _ _ Tk).mono ?_
                    rintro e wb ⟨rfl, bb⟩
                    have Bb := bel_trans Ba bb
                    have X_l := SBox.new wb 37 #[.int .i64 t, .int .i64 (n : Int), .int .i64 ((n + 1 : Nat) : Int), .bool d]
                    have Bc := Bb.alloc Bb.size (.cells #[.int .i64 t, .int .i64 (n : Int), .int .i64 ((n + 1 : Nat) : Int), .bool d] 37)
                    have l0 := X_l.cell 0 _ rfl
                    have l1 := X_l.cell 1 _ rfl
                    have l2 := X_l.cell 2 _ rfl
                    have l3 := X_l.cell 3 _ rfl
                    have q1 : (((n + 2 : Nat) : Int) == ((n + 2 : Nat) : Int)) = true := beq_self_eq_true _
                    have q2 : ((n : Int) == (n : Int)) = true := beq_self_eq_true _
                    have q3 : (((n + 1 : Nat) : Int) == (n : Int) + 1) = true := by rw [beq_iff_eq]; omega
                    have q4 : (d == d) = true := beq_self_eq_true _
                    go_wp2_with fail
                    go_ret
                    exact ⟨rfl, Bc⟩
                · have c7' : (254 : Int) < (n : Int) := by omega
                  go_enter Try.func8, Try.ntmps8
                  go_wp2_with fail
                  refine (HSh.out _ (Below.refl w.heap.size w)).mono ?_
                  rintro e w1 ⟨rfl, b1⟩
                  have B1 := bel_trans (Below.refl w.heap.size w) b1
                  go_wp2_with fail
                  refine (HF.out _ B1).mono ?_
                  rintro e w2 ⟨rfl, b2⟩
                  have B2 := bel_trans B1 b2
                  go_wp2_with fail
                  refine (HM.out _ B2).mono ?_
                  rintro e w3 ⟨rfl, b3⟩
                  have B3 := bel_trans B2 b3
                  go_wp2_with fail
                  refine (HI.out _ B3).mono ?_
                  rintro e w4 ⟨rfl, b4⟩
                  have B4 := bel_trans B3 b4
                  have X_y := SBox.new w4 37 #[.int .i64 y0, .int .i64 (y1 : Int), .int .i64 (y2 : Int), .bool y3]
                  have B4' := B4.alloc B4.size (.cells #[.int .i64 y0, .int .i64 (y1 : Int), .int .i64 (y2 : Int), .bool y3] 37)
                  have f_y0_4 := X_y.cell 0 _ rfl
                  have f_y1_4 := X_y.cell 1 _ rfl
                  have f_y2_4 := X_y.cell 2 _ rfl
                  have f_y3_4 := X_y.cell 3 _ rfl
                  go_wp2_with fail
                  go_ret
                  exact ⟨rfl, B4'⟩
              · skip
                go_enter Try.func8, Try.ntmps8
                go_wp2_with fail
                refine (HSh.out _ (Below.refl w.heap.size w)).mono ?_
                rintro e w1 ⟨rfl, b1⟩
                have B1 := bel_trans (Below.refl w.heap.size w) b1
                go_wp2_with fail
                refine (HF.out _ B1).mono ?_
                rintro e w2 ⟨rfl, b2⟩
                have B2 := bel_trans B1 b2
                go_wp2_with fail
                refine (HM.out _ B2).mono ?_
                rintro e w3 ⟨rfl, b3⟩
                have B3 := bel_trans B2 b3
                go_wp2_with fail
                refine (HI.out _ B3).mono ?_
                rintro e w4 ⟨rfl, b4⟩
                have B4 := bel_trans B3 b4
                have X_y := SBox.new w4 37 #[.int .i64 y0, .int .i64 (y1 : Int), .int .i64 (y2 : Int), .bool y3]
                have B4' := B4.alloc B4.size (.cells #[.int .i64 y0, .int .i64 (y1 : Int), .int .i64 (y2 : Int), .bool y3] 37)
                have f_y0_4 := X_y.cell 0 _ rfl
                have f_y1_4 := X_y.cell 1 _ rfl
                have f_y2_4 := X_y.cell 2 _ rfl
                have f_y3_4 := X_y.cell 3 _ rfl
                go_wp2_with fail
                go_ret
                exact ⟨rfl, B4'⟩
            · skip
              go_enter Try.func8, Try.ntmps8
              go_wp2_with fail
              refine (HSh.out _ (Below.refl w.heap.size w)).mono ?_
              rintro e w1 ⟨rfl, b1⟩
              have B1 := bel_trans (Below.refl w.heap.size w) b1
              go_wp2_with fail
              refine (HF.out _ B1).mono ?_
              rintro e w2 ⟨rfl, b2⟩
              have B2 := bel_trans B1 b2
              go_wp2_with fail
              refine (HM.out _ B2).mono ?_
              rintro e w3 ⟨rfl, b3⟩
              have B3 := bel_trans B2 b3
              go_wp2_with fail
              refine (HI.out _ B3).mono ?_
              rintro e w4 ⟨rfl, b4⟩
              have B4 := bel_trans B3 b4
              have X_y := SBox.new w4 37 #[.int .i64 y0, .int .i64 (y1 : Int), .int .i64 (y2 : Int), .bool y3]
              have B4' := B4.alloc B4.size (.cells #[.int .i64 y0, .int .i64 (y1 : Int), .int .i64 (y2 : Int), .bool y3] 37)
              have f_y0_4 := X_y.cell 0 _ rfl
              have f_y1_4 := X_y.cell 1 _ rfl
              have f_y2_4 := X_y.cell 2 _ rfl
              have f_y3_4 := X_y.cell 3 _ rfl
              go_wp2_with fail
              go_ret
              exact ⟨rfl, B4'⟩
          · skip
            go_enter Try.func8, Try.ntmps8
            go_wp2_with fail
            refine (HSh.out _ (Below.refl w.heap.size w)).mono ?_
            rintro e w1 ⟨rfl, b1⟩
            have B1 := bel_trans (Below.refl w.heap.size w) b1
            go_wp2_with fail
            refine (HF.out _ B1).mono ?_
            rintro e w2 ⟨rfl, b2⟩
            have B2 := bel_trans B1 b2
            go_wp2_with fail
            refine (HM.out _ B2).mono ?_
            rintro e w3 ⟨rfl, b3⟩
            have B3 := bel_trans B2 b3
            go_wp2_with fail
            refine (HI.out _ B3).mono ?_
            rintro e w4 ⟨rfl, b4⟩
            have B4 := bel_trans B3 b4
            have X_y := SBox.new w4 37 #[.int .i64 y0, .int .i64 (y1 : Int), .int .i64 (y2 : Int), .bool y3]
            have B4' := B4.alloc B4.size (.cells #[.int .i64 y0, .int .i64 (y1 : Int), .int .i64 (y2 : Int), .bool y3] 37)
            have f_y0_4 := X_y.cell 0 _ rfl
            have f_y1_4 := X_y.cell 1 _ rfl
            have f_y2_4 := X_y.cell 2 _ rfl
            have f_y3_4 := X_y.cell 3 _ rfl
            go_wp2_with fail
            go_ret
            exact ⟨rfl, B4'⟩
        · skip
          go_enter Try.func8, Try.ntmps8
          go_wp2_with fail
          refine (HSh.out _ (Below.refl w.heap.size w)).mono ?_
          rintro e w1 ⟨rfl, b1⟩
          have B1 := bel_trans (Below.refl w.heap.size w) b1
          go_wp2_with fail
          refine (HF.out _ B1).mono ?_
          rintro e w2 ⟨rfl, b2⟩
          have B2 := bel_trans B1 b2
          go_wp2_with fail
          refine (HM.out _ B2).mono ?_
          rintro e w3 ⟨rfl, b3⟩
          have B3 := bel_trans B2 b3
          go_wp2_with fail
          refine (HI.out _ B3).mono ?_
          rintro e w4 ⟨rfl, b4⟩
          have B4 := bel_trans B3 b4
          have X_y := SBox.new w4 37 #[.int .i64 y0, .int .i64 (y1 : Int), .int .i64 (y2 : Int), .bool y3]
          have B4' := B4.alloc B4.size (.cells #[.int .i64 y0, .int .i64 (y1 : Int), .int .i64 (y2 : Int), .bool y3] 37)
          have f_y0_4 := X_y.cell 0 _ rfl
          have f_y1_4 := X_y.cell 1 _ rfl
          have f_y2_4 := X_y.cell 2 _ rfl
          have f_y3_4 := X_y.cell 3 _ rfl
          go_wp2_with fail
          go_ret
          exact ⟨rfl, B4'⟩
      · have c2' : y4 = true := by cases y4 with
          | true => rfl
          | false => exact absurd rfl c2
        subst c2'
        go_enter Try.func8, Try.ntmps8
        go_wp2_with fail
        refine (HSh.out _ (Below.refl w.heap.size w)).mono ?_
        rintro e w1 ⟨rfl, b1⟩
        have B1 := bel_trans (Below.refl w.heap.size w) b1
        go_wp2_with fail
        refine (HF.out _ B1).mono ?_
        rintro e w2 ⟨rfl, b2⟩
        have B2 := bel_trans B1 b2
        go_wp2_with fail
        refine (HM.out _ B2).mono ?_
        rintro e w3 ⟨rfl, b3⟩
        have B3 := bel_trans B2 b3
        go_wp2_with fail
        refine (HI.out _ B3).mono ?_
        rintro e w4 ⟨rfl, b4⟩
        have B4 := bel_trans B3 b4
        have X_y := SBox.new w4 37 #[.int .i64 y0, .int .i64 (y1 : Int), .int .i64 (y2 : Int), .bool y3]
        have B4' := B4.alloc B4.size (.cells #[.int .i64 y0, .int .i64 (y1 : Int), .int .i64 (y2 : Int), .bool y3] 37)
        have f_y0_4 := X_y.cell 0 _ rfl
        have f_y1_4 := X_y.cell 1 _ rfl
        have f_y2_4 := X_y.cell 2 _ rfl
        have f_y3_4 := X_y.cell 3 _ rfl
        go_wp2_with fail
        go_ret
        exact ⟨rfl, B4'⟩
    · have c1' : ((f2 : Int) != 0) = true := by rw [bne_iff_ne]; omega
      go_enter Try.func8, Try.ntmps8
      go_wp2_with fail
      refine (HSh.out _ (Below.refl w.heap.size w)).mono ?_
      rintro e w1 ⟨rfl, b1⟩
      have B1 := bel_trans (Below.refl w.heap.size w) b1
      go_wp2_with fail
      refine (HF.out _ B1).mono ?_
      rintro e w2 ⟨rfl, b2⟩
      have B2 := bel_trans B1 b2
      go_wp2_with fail
      refine (HM.out _ B2).mono ?_
      rintro e w3 ⟨rfl, b3⟩
      have B3 := bel_trans B2 b3
      go_wp2_with fail
      refine (HI.out _ B3).mono ?_
      rintro e w4 ⟨rfl, b4⟩
      have B4 := bel_trans B3 b4
      have X_y := SBox.new w4 37 #[.int .i64 y0, .int .i64 (y1 : Int), .int .i64 (y2 : Int), .bool y3]
      have B4' := B4.alloc B4.size (.cells #[.int .i64 y0, .int .i64 (y1 : Int), .int .i64 (y2 : Int), .bool y3] 37)
      have f_y0_4 := X_y.cell 0 _ rfl
      have f_y1_4 := X_y.cell 1 _ rfl
      have f_y2_4 := X_y.cell 2 _ rfl
      have f_y3_4 := X_y.cell 3 _ rfl
      go_wp2_with fail
      go_ret
      exact ⟨rfl, B4'⟩
  · rw [decide_eq_false h1] at HF
    go_enter Try.func8, Try.ntmps8
    go_wp2_with fail
    refine (HSh.out _ (Below.refl w.heap.size w)).mono ?_
    rintro e w1 ⟨rfl, b1⟩
    have B1 := bel_trans (Below.refl w.heap.size w) b1
    go_wp2_with fail
    refine (HF.out _ B1).mono ?_
    rintro e w2 ⟨rfl, b2⟩
    have B2 := bel_trans B1 b2
    go_wp2_with fail
    refine (HM.out _ B2).mono ?_
    rintro e w3 ⟨rfl, b3⟩
    have B3 := bel_trans B2 b3
    go_wp2_with fail
    refine (HI.out _ B3).mono ?_
    rintro e w4 ⟨rfl, b4⟩
    have B4 := bel_trans B3 b4
    have X_y := SBox.new w4 37 #[.int .i64 y0, .int .i64 (y1 : Int), .int .i64 (y2 : Int), .bool y3]
    have B4' := B4.alloc B4.size (.cells #[.int .i64 y0, .int .i64 (y1 : Int), .int .i64 (y2 : Int), .bool y3] 37)
    have f_y0_4 := X_y.cell 0 _ rfl
    have f_y1_4 := X_y.cell 1 _ rfl
    have f_y2_4 := X_y.cell 2 _ rfl
    have f_y3_4 := X_y.cell 3 _ rfl
    go_wp2_with fail
    go_ret
    exact ⟨rfl, B4'⟩
end Go.Proofs.Ytpmcmohdhicfcaa
