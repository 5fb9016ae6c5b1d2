/-
  The walk of RedactNames.
-/
import Derived.Test.YtihggfkenhkglaaDoorZShown7
import Derived.Test.YtihggfkenhkglaaDoorGA
import Derived.Test.YtihggfkenhkglaaDoorZR6Same
import Derived.Deep.RegionHeld3
import Derived.BigQuiet
import Derived.Deep.QuietTactic
namespace Go.Proofs.YtihggfkenhkglaaDoor
set_option maxRecDepth 100000
open Go.RowKit
set_option linter.unusedVariables false
attribute [local go_sem] ba_size ba_append ba_get ba_extract
set_option maxHeartbeats 4000000 in
theorem names7_walk (CS : P7S) (w : World) (vh : Value) (h : List Ev) (Th : IsEvs w vh h) (Gh : ∀ x ∈ h, goodE x) (f : List UInt8) (lf : f.length ≤ 140737488351232) (m : List UInt8) (lm : m.length ≤ 140737488351232) :
    Calls Tryd.prog 6 #[vh, .string ⟨f.toArray⟩, .string ⟨m.toArray⟩] w fun e w' => e = .returned (.bool true) ∧ Below w.heap.size w w' := by
  have HSh : Hid (∀ W, Below w.heap.size w W → Calls Tryd.prog 10 #[] W fun e w' => e = .returned (.bool true) ∧ Below W.heap.size W w') := fun W h => shown7_any CS W
  have HF : Hid (∀ W, Below w.heap.size w W → Calls Tryd.prog 17 #[vh] W fun e w' => e = .returned (.bool (decide (h.length ≤ 60))) ∧ Below W.heap.size W w') := fun W hb => few_any vh h W (Th.below hb)
  by_cases h1 : h.length ≤ 60
  · rw [decide_eq_true h1] at HF
    have HS : Hid (∀ W, Below w.heap.size w W → Calls Tryd.prog 21 #[vh] W fun e w' => EvRow 23 W (shapeL h) e w') := fun W hb => CS.shape h vh W (Th.below hb) (by omega) (fun x hx => by have := Gh x hx; unfold goodE at this; omega)
    have SE : Hid (∀ (L : List Ev) v1 v2 W, IsEvs W v1 L → IsEvs W v2 L → Calls Tryd.prog 20 #[v1, v2] W fun e w' => e = .returned (.bool true) ∧ Below W.heap.size W w') := fun L v1 v2 W h1 h2 => by have := rsame6_any v1 v2 L L W h1 h2; rw [decide_eq_true rfl] at this; exact this
    have HSk : Hid (∀ v W, Below w.heap.size w W → IsEvs W v (h.map (renE f m)) → Calls Tryd.prog 21 #[v] W fun e w' => EvRow 23 W (shapeL h) e w') := fun v W _ hv => by
      rw [← shape_ren f m h]
      exact CS.shape (h.map (renE f m)) v W hv (by rw [List.length_map]; omega) (ren_lens f m h (fun x hx => by have := Gh x hx; unfold goodE at this; omega) lf lm)
    have HSs : Hid (∀ v W, Below w.heap.size w W → IsEvs W v (shapeL h) → Calls Tryd.prog 21 #[v] W fun e w' => EvRow 23 W (shapeL h) e w') := fun v W _ hv => by
      have := CS.shape (shapeL h) v W hv (by rw [shape_len]; omega) (shape_lens h (by omega))
      rw [shape_shape] at this
      exact this
    have b3 : (shapeL h).length ≤ 60 := by rw [shape_len]; exact h1
    obtain ⟨Y, hY⟩ : ∃ y, shapeL h = y := ⟨_, rfl⟩
    rw [hY] at HS HSk HSs b3
    clear hY
    obtain ⟨i0, hi, hz0, hz1, hz2⟩ := info_parts ev_info7
    obtain ⟨ah, ch, rfl, ih, jh, _, HCh⟩ := Th.some_at
    obtain ⟨n, hn⟩ : ∃ n, h.length = n := ⟨_, rfl⟩
    have HN : Hid (h.length = n) := hn
    rw [hn] at h1 ih HF HS ⊢
    clear hn
    go_enter Tryd.func6, Tryd.ntmps6
    go_wp2_with fail
    refine (HSh.out _ (Below.refl w.heap.size w)).mono ?_
    rintro e w1 ⟨rfl, b1⟩
    have B1 := bel_trans (Below.refl w.heap.size w) b1
    go_wp2_with fail
    refine (HF.out _ B1).mono ?_
    rintro e w2 ⟨rfl, b2⟩
    have B2 := bel_trans B1 b2
    go_wp2_with fail
    go_loopw [9, 10] (fun r i wr => ∃ k : Nat, k ≤ n ∧ i = .int .i64 k ∧ Below w.heap.size w wr ∧ wr.ownsRow w.heap.size 23 4 r k (recV evV ((h.take k).map (renE f m)))) (fun _ i _ => n - (intOf i).toNat)
    case atStart => exact ⟨0, Nat.zero_le _, rfl, B2, World.ownsRow_nil _ _ _ _⟩
    case round =>
      obtain ⟨k, hk, rfl, hbw, hrow⟩ := hrel
      by_cases hlt : k < n
      · have hk1 : k < h.length := by have := HN.out; omega
        obtain ⟨bb, off, rfl, hblt, hcell⟩ := HCh.out k hk1
        obtain ⟨p0, p1, p2, p3⟩ := IsEvs.at hk1 hcell
        have q0 := (hbw.cell (p := ⟨bb, off + k * 4, none⟩) hblt).trans p0
        have q1 := (hbw.cell (p := ⟨bb, off + k * 4 + 1, none⟩) hblt).trans p1
        have q2 := (hbw.cell (p := ⟨bb, off + k * 4 + 2, none⟩) hblt).trans p2
        have q3 := (hbw.cell (p := ⟨bb, off + k * 4 + 3, none⟩) hblt).trans p3
        have gx := Gh _ (List.getElem_mem hk1)
        obtain ⟨⟨x0, x1, x2, x3⟩, hx⟩ : ∃ x, h[k] = x := ⟨_, rfl⟩
        have HX : Hid (h[k] = (x0, x1, x2, x3)) := hx
        rw [hx] at q0 q1 q2 q3 gx
        simp only at q0 q1 q2 q3
        have lx : x2.length ≤ 140737488351232 ∧ x3.length ≤ 140737488351232 := by unfold goodE at gx; simp only at gx; omega
        obtain ⟨lx2, lx3⟩ := lx
        clear p0 p1 p2 p3 hcell hx gx
        have z1 : f.length + x2.length ≤ 9223372036854775807 := by omega
        have z2 : f.length + x2.length + m.length ≤ 9223372036854775807 := by omega
        have z3 : m.length + x3.length ≤ 9223372036854775807 := by omega
        have z4 : m.length + x3.length + f.length ≤ 9223372036854775807 := by omega
        have z5 : f.length + (x2.length + m.length) ≤ 9223372036854775807 := by omega
        have z6 : m.length + (x3.length + f.length) ≤ 9223372036854775807 := by omega
        have HV : Hid (∀ a b, (if x2 = [] then [] else f ++ x2 ++ m) = a → (if x3 = [] then [] else m ++ x3 ++ f) = b → recV evV ((h.take (k + 1)).map (renE f m)) = recV evV ((h.take k).map (renE f m)) ++ [.int .i64 x0, .int .i64 x1, .string ⟨a.toArray⟩, .string ⟨b.toArray⟩]) := by
          intro a b ha hb
          rw [List.take_succ_eq_append_getElem hk1, List.map_append, recV_append, HX.out]
          simp only [List.map_cons, List.map_nil, renE, ha, hb, recV, List.flatMap_cons, List.flatMap_nil, List.append_nil, evV]
        obtain ⟨DR, hDR⟩ : ∃ d, recV evV ((h.take k).map (renE f m)) = d := ⟨_, rfl⟩
        rw [hDR] at hrow HV
        clear hDR
        by_cases hkx : x2 = []
        · subst hkx
          by_cases hv : x3 = []
          · subst hv
            have B1' := hbw.alloc hbw.size (.cells #[.int .i64 x0, .int .i64 x1, .string ⟨#[]⟩, .string ⟨#[]⟩] 23)
            have O1 := hrow.alloc (.cells #[.int .i64 x0, .int .i64 x1, .string ⟨#[]⟩, .string ⟨#[]⟩] 23)
            have hs1 := hbw.size
            have sz := B1'.size
            have HV' : Hid _ := HV.out _ _ (if_pos rfl) (if_pos rfl)
            go_wp2_with (at_builtin; refine wpList_append_own _ rfl _ _ 37 rfl w.heap.size 23 i0 (.agg #[.int .i64 0, .int .i64 0, .string ByteArray.empty, .string ByteArray.empty]) 4 48 Tryd.underlying37 hi hz0 hz1 hz2 rfl (by decide) _ _ _ rfl (O1.alloc _) ⟨wr.heap.size + 1, 0, none⟩ 1 1 [.int .i64 x0, .int .i64 x1, .string ⟨#[]⟩, .string ⟨#[]⟩] rfl rfl ?d1p ?d2p ?d3p ?d4p ?d5p ?_)
            try
              case d1p =>
                intro j u hj
                match j, hj with
                | 0, hj => simp at hj; subst hj; first | (simp [Addr.add]; done) | exact cell_new7 (by simp) rfl
                | 1, hj => simp at hj; subst hj; first | (simp [Addr.add]; done) | exact cell_new7 (by simp) rfl
                | 2, hj => simp at hj; subst hj; first | (simp [Addr.add]; done) | exact cell_new7 (by simp) rfl
                | 3, hj => simp at hj; subst hj; first | (simp [Addr.add]; done) | exact cell_new7 (by simp) rfl
            case d2p => first | exact evV_one (x0, x1, [], []) | exact ⟨rfl, rfl, rfl⟩ | exact ⟨rfl, rfl, rfl, rfl⟩
            case d3p => unfold maxLen; omega
            case d4p => omega
            case d5p => simp at sz ⊢; omega
            intro v' w9 hown9 hgrow9 _
            have B9 : Below w.heap.size w w9 := (B1'.alloc B1'.size _).grown hgrow9 (by simp at sz ⊢; omega) (fun j hj => (O1.lt j hj).1)
            go_wp2_with fail
            refine ⟨?relp, ?meap⟩
            case relp => exact ⟨k + 1, by omega, by first | go_num | simp, B9, by rw [HV'.out]; exact hown9⟩
            case meap => simp [intOf]; omega
          · have nv := ne_nil7 x3 hv
            have B1' := hbw.alloc hbw.size (.cells #[.int .i64 x0, .int .i64 x1, .string ⟨#[]⟩, .string ⟨(m ++ (x3 ++ f)).toArray⟩] 23)
            have O1 := hrow.alloc (.cells #[.int .i64 x0, .int .i64 x1, .string ⟨#[]⟩, .string ⟨(m ++ (x3 ++ f)).toArray⟩] 23)
            have hs1 := hbw.size
            have sz := B1'.size
            have HV' : Hid _ := HV.out _ _ (if_pos rfl) (by rw [if_neg hv, List.append_assoc])
            go_wp2_with (at_builtin; refine wpList_append_own _ rfl _ _ 37 rfl w.heap.size 23 i0 (.agg #[.int .i64 0, .int .i64 0, .string ByteArray.empty, .string ByteArray.empty]) 4 48 Tryd.underlying37 hi hz0 hz1 hz2 rfl (by decide) _ _ _ rfl (O1.alloc _) ⟨wr.heap.size + 1, 0, none⟩ 1 1 [.int .i64 x0, .int .i64 x1, .string ⟨#[]⟩, .string ⟨(m ++ (x3 ++ f)).toArray⟩] rfl rfl ?d1q ?d2q ?d3q ?d4q ?d5q ?_)
            try
              case d1q =>
                intro j u hj
                match j, hj with
                | 0, hj => simp at hj; subst hj; first | (simp [Addr.add]; done) | exact cell_new7 (by simp) rfl
                | 1, hj => simp at hj; subst hj; first | (simp [Addr.add]; done) | exact cell_new7 (by simp) rfl
                | 2, hj => simp at hj; subst hj; first | (simp [Addr.add]; done) | exact cell_new7 (by simp) rfl
                | 3, hj => simp at hj; subst hj; first | (simp [Addr.add]; done) | exact cell_new7 (by simp) rfl
            case d2q => first | exact evV_one (x0, x1, [], (m ++ (x3 ++ f))) | exact ⟨rfl, rfl, rfl⟩ | exact ⟨rfl, rfl, rfl, rfl⟩
            case d3q => unfold maxLen; omega
            case d4q => omega
            case d5q => simp at sz ⊢; omega
            intro v' w9 hown9 hgrow9 _
            have B9 : Below w.heap.size w w9 := (B1'.alloc B1'.size _).grown hgrow9 (by simp at sz ⊢; omega) (fun j hj => (O1.lt j hj).1)
            go_wp2_with fail
            refine ⟨?relq, ?meaq⟩
            case relq => exact ⟨k + 1, by omega, by first | go_num | simp, B9, by rw [HV'.out]; exact hown9⟩
            case meaq => simp [intOf]; omega
        · have nk := ne_nil7 x2 hkx
          by_cases hv : x3 = []
          · subst hv
            have B1' := hbw.alloc hbw.size (.cells #[.int .i64 x0, .int .i64 x1, .string ⟨(f ++ (x2 ++ m)).toArray⟩, .string ⟨#[]⟩] 23)
            have O1 := hrow.alloc (.cells #[.int .i64 x0, .int .i64 x1, .string ⟨(f ++ (x2 ++ m)).toArray⟩, .string ⟨#[]⟩] 23)
            have hs1 := hbw.size
            have sz := B1'.size
            have HV' : Hid _ := HV.out _ _ (by rw [if_neg hkx, List.append_assoc]) (if_pos rfl)
            go_wp2_with (at_builtin; refine wpList_append_own _ rfl _ _ 37 rfl w.heap.size 23 i0 (.agg #[.int .i64 0, .int .i64 0, .string ByteArray.empty, .string ByteArray.empty]) 4 48 Tryd.underlying37 hi hz0 hz1 hz2 rfl (by decide) _ _ _ rfl (O1.alloc _) ⟨wr.heap.size + 1, 0, none⟩ 1 1 [.int .i64 x0, .int .i64 x1, .string ⟨(f ++ (x2 ++ m)).toArray⟩, .string ⟨#[]⟩] rfl rfl ?d1r ?d2r ?d3r ?d4r ?d5r ?_)
            try
              case d1r =>
                intro j u hj
                match j, hj with
                | 0, hj => simp at hj; subst hj; first | (simp [Addr.add]; done) | exact cell_new7 (by simp) rfl
                | 1, hj => simp at hj; subst hj; first | (simp [Addr.add]; done) | exact cell_new7 (by simp) rfl
                | 2, hj => simp at hj; subst hj; first | (simp [Addr.add]; done) | exact cell_new7 (by simp) rfl
                | 3, hj => simp at hj; subst hj; first | (simp [Addr.add]; done) | exact cell_new7 (by simp) rfl
            case d2r => first | exact evV_one (x0, x1, (f ++ (x2 ++ m)), []) | exact ⟨rfl, rfl, rfl⟩ | exact ⟨rfl, rfl, rfl, rfl⟩
            case d3r => unfold maxLen; omega
            case d4r => omega
            case d5r => simp at sz ⊢; omega
            intro v' w9 hown9 hgrow9 _
            have B9 : Below w.heap.size w w9 := (B1'.alloc B1'.size _).grown hgrow9 (by simp at sz ⊢; omega) (fun j hj => (O1.lt j hj).1)
            go_wp2_with fail
            refine ⟨?relr, ?mear⟩
            case relr => exact ⟨k + 1, by omega, by first | go_num | simp, B9, by rw [HV'.out]; exact hown9⟩
            case mear => simp [intOf]; omega
          · have nv := ne_nil7 x3 hv
            have B1' := hbw.alloc hbw.size (.cells #[.int .i64 x0, .int .i64 x1, .string ⟨(f ++ (x2 ++ m)).toArray⟩, .string ⟨(m ++ (x3 ++ f)).toArray⟩] 23)
            have O1 := hrow.alloc (.cells #[.int .i64 x0, .int .i64 x1, .string ⟨(f ++ (x2 ++ m)).toArray⟩, .string ⟨(m ++ (x3 ++ f)).toArray⟩] 23)
            have hs1 := hbw.size
            have sz := B1'.size
            have HV' : Hid _ := HV.out _ _ (by rw [if_neg hkx, List.append_assoc]) (by rw [if_neg hv, List.append_assoc])
            go_wp2_with (at_builtin; refine wpList_append_own _ rfl _ _ 37 rfl w.heap.size 23 i0 (.agg #[.int .i64 0, .int .i64 0, .string ByteArray.empty, .string ByteArray.empty]) 4 48 Tryd.underlying37 hi hz0 hz1 hz2 rfl (by decide) _ _ _ rfl (O1.alloc _) ⟨wr.heap.size + 1, 0, none⟩ 1 1 [.int .i64 x0, .int .i64 x1, .string ⟨(f ++ (x2 ++ m)).toArray⟩, .string ⟨(m ++ (x3 ++ f)).toArray⟩] rfl rfl ?d1s ?d2s ?d3s ?d4s ?d5s ?_)
            try
              case d1s =>
                intro j u hj
                match j, hj with
                | 0, hj => simp at hj; subst hj; first | (simp [Addr.add]; done) | exact cell_new7 (by simp) rfl
                | 1, hj => simp at hj; subst hj; first | (simp [Addr.add]; done) | exact cell_new7 (by simp) rfl
                | 2, hj => simp at hj; subst hj; first | (simp [Addr.add]; done) | exact cell_new7 (by simp) rfl
                | 3, hj => simp at hj; subst hj; first | (simp [Addr.add]; done) | exact cell_new7 (by simp) rfl
            case d2s => first | exact evV_one (x0, x1, (f ++ (x2 ++ m)), (m ++ (x3 ++ f))) | exact ⟨rfl, rfl, rfl⟩ | exact ⟨rfl, rfl, rfl, rfl⟩
            case d3s => unfold maxLen; omega
            case d4s => omega
            case d5s => simp at sz ⊢; omega
            intro v' w9 hown9 hgrow9 _
            have B9 : Below w.heap.size w w9 := (B1'.alloc B1'.size _).grown hgrow9 (by simp at sz ⊢; omega) (fun j hj => (O1.lt j hj).1)
            go_wp2_with fail
            refine ⟨?rels, ?meas⟩
            case rels => exact ⟨k + 1, by omega, by first | go_num | simp, B9, by rw [HV'.out]; exact hown9⟩
            case meas => simp [intOf]; omega
      · obtain rfl : k = n := by omega
        have HF2 : Hid (h.take k = h) := List.take_of_length_le (by have := HN.out; omega)
        rw [HF2.out] at hrow
        have Tk : IsEvs wr u9 (h.map (renE f m)) := IsRec.own evV_len (by omega) hrow (by omega)
        obtain ⟨wo, rfl⟩ : ∃ x, x = wr := ⟨_, rfl⟩
        have T_k := Tk
        go_wp2_with fail
        refine (HS.out _ hbw).mono ?_
        rintro e w3 hres3
        obtain ⟨u_s, rfl, b3, o_s⟩ := hres3
        have B3 := bel_trans hbw b3
        replace T_k := T_k.below b3
        have T_s : IsEvs w3 u_s Y := IsRec.own evV_len (by omega) o_s (by show Y.length ≤ _; omega)
        obtain ⟨a_s, c_s, rfl, i_s, j_s, _, HC_s⟩ := T_s.some_at
        go_wp2_with fail
        refine (HSk.out _ _ B3 T_k).mono ?_
        rintro e w4 hres4
        obtain ⟨u_t, rfl, b4, o_t⟩ := hres4
        have B4 := bel_trans B3 b4
        replace T_k := T_k.below b4
        replace T_s := T_s.below b4
        have T_t : IsEvs w4 u_t Y := IsRec.own evV_len (by omega) o_t (by show Y.length ≤ _; omega)
        obtain ⟨a_t, c_t, rfl, i_t, j_t, _, HC_t⟩ := T_t.some_at
        go_wp2_with fail
        refine (SE.out _ _ _ _ T_s T_t).mono ?_
        rintro e w5 ⟨rfl, b5⟩
        have B5 := bel_trans B4 b5
        replace T_k := T_k.below b5
        replace T_s := T_s.below b5
        replace T_t := T_t.below b5
        go_wp2_with fail
        refine (HSs.out _ _ B5 T_s).mono ?_
        rintro e w6 hres6
        obtain ⟨u_u, rfl, b6, o_u⟩ := hres6
        have B6 := bel_trans B5 b6
        replace T_k := T_k.below b6
        replace T_s := T_s.below b6
        replace T_t := T_t.below b6
        have T_u : IsEvs w6 u_u Y := IsRec.own evV_len (by omega) o_u (by show Y.length ≤ _; omega)
        obtain ⟨a_u, c_u, rfl, i_u, j_u, _, HC_u⟩ := T_u.some_at
        go_wp2_with fail
        refine (SE.out _ _ _ _ T_u T_s).mono ?_
        rintro e w7 ⟨rfl, b7⟩
        have B7 := bel_trans B6 b7
        replace T_k := T_k.below b7
        replace T_s := T_s.below b7
        replace T_t := T_t.below b7
        replace T_u := T_u.below b7
        go_wp2_with fail
        go_ret
        exact ⟨rfl, B7⟩
  · rw [decide_eq_false h1] at HF
    obtain ⟨ah, ch, rfl, ih, jh, _, HCh⟩ := Th.some_at
    go_enter Tryd.func6, Tryd.ntmps6
    go_wp2_with fail
    refine (HSh.out _ (Below.refl w.heap.size w)).mono ?_
    rintro e w1 ⟨rfl, b1⟩
    have B1 := bel_trans (Below.refl w.heap.size w) b1
    go_wp2_with fail
    refine (HF.out _ B1).mono ?_
    rintro e w2 ⟨rfl, b2⟩
    have B2 := bel_trans B1 b2
    go_wp2_with fail
    go_ret
    exact ⟨rfl, B2⟩
end Go.Proofs.YtihggfkenhkglaaDoor
