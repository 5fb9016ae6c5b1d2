/-
  What cartoucheref07.Shape answers.
-/
import Derived.Test.YtihggfkenhkglaaDoorZR7Figs
import Derived.Test.YtihggfkenhkglaaDoorGH
import Derived.BigQuiet
import Derived.Deep.QuietTactic
namespace Go.Proofs.YtihggfkenhkglaaDoor
set_option maxRecDepth 100000
open Go.RowKit
set_option linter.unusedVariables false
attribute [local go_sem] ba_size ba_append
theorem key_at (h : List Ev) (i : Nat) (hi : i < h.length) : keyAt h i = h[i].2.2.1 := by unfold keyAt; rw [ev_get h i hi]
theorem val_at (h : List Ev) (i : Nat) (hi : i < h.length) : valAt h i = h[i].2.2.2 := by unfold valAt; rw [ev_get h i hi]
set_option maxHeartbeats 4000000 in
theorem rshape_any (h : List Ev) (v : Value) (w : World) (hT : IsEvs w v h) (hle : h.length ≤ 256) :
    Calls Tryd.prog 22 #[v] w fun e w' => EvRow 23 w (shapeL h) e w' := by
  obtain ⟨i0, hi, hz0, hz1, hz2⟩ := info_parts ev_info7
  obtain ⟨a, cap, rfl, h1, h2, h3, HC⟩ := hT.some_at
  obtain ⟨n, hn⟩ : ∃ n, h.length = n := ⟨_, rfl⟩
  have HN : Hid (h.length = n) := hn
  rw [hn] at h1 h3 hle ⊢
  clear hT hn
  go_enter Tryd.func22, Tryd.ntmps22
  go_wp2_with fail
  go_loopw [3, 4] (fun r i wr => ∃ k : Nat, k ≤ n ∧ i = .int .i64 k ∧ Below w.heap.size w wr ∧ wr.ownsRow w.heap.size 23 4 r k (recV evV ((h.take k).map (shapeE h)))) (fun _ i _ => n - (intOf i).toNat)
  case atStart => exact ⟨0, Nat.zero_le _, rfl, Below.refl _ _, World.ownsRow_nil _ _ _ _⟩
  case round =>
    obtain ⟨k, hk, rfl, hbw, hrow⟩ := hrel
    obtain ⟨wo, rfl⟩ : ∃ x, x = wr := ⟨_, rfl⟩
    by_cases hlt : k < n
    · have hk1 : k < h.length := by have := HN.out; omega
      obtain ⟨bb, off, rfl, hblt, hcell⟩ := HC.out k hk1
      obtain ⟨p0, p1, p2, p3⟩ := IsEvs.at hk1 hcell
      have q0 := (hbw.cell (p := ⟨bb, off + k * 4, none⟩) hblt).trans p0
      have q1 := (hbw.cell (p := ⟨bb, off + k * 4 + 1, none⟩) hblt).trans p1
      have q2 := (hbw.cell (p := ⟨bb, off + k * 4 + 2, none⟩) hblt).trans p2
      have q3 := (hbw.cell (p := ⟨bb, off + k * 4 + 3, none⟩) hblt).trans p3
      have HQ : Hid (∀ j (hj : j < h.length), ∀ V, Below w.heap.size w V → V.cell? ⟨bb, off + j * 4 + 2, none⟩ = some (.string ⟨(keyAt h j).toArray⟩) ∧ V.cell? ⟨bb, off + j * 4 + 3, none⟩ = some (.string ⟨(valAt h j).toArray⟩)) := by
        intro j hj V hV
        obtain ⟨bb', off', hbo, hblt', hcell'⟩ := HC.out j hj
        obtain ⟨rfl, rfl⟩ : bb = bb' ∧ off = off' := by simpa using hbo
        obtain ⟨_, _, s2, s3⟩ := IsEvs.at hj hcell'
        exact ⟨by rw [key_at h j hj]; exact (hV.cell (p := ⟨bb, off + j * 4 + 2, none⟩) hblt).trans s2, by rw [val_at h j hj]; exact (hV.cell (p := ⟨bb, off + j * 4 + 3, none⟩) hblt).trans s3⟩
      obtain ⟨⟨x0, x1, x2, x3⟩, hx⟩ : ∃ x, h[k] = x := ⟨_, rfl⟩
      have HX : Hid (h[k] = (x0, x1, x2, x3)) := hx
      rw [hx] at q0 q1 q2 q3
      simp only at q0 q1 q2 q3
      clear p0 p1 p2 p3 hcell hx
      have HKk : Hid (keyAt h k = x2) := by show _ = _; rw [key_at h k hk1, HX.out]
      have HVk : Hid (valAt h k = x3) := by show _ = _; rw [val_at h k hk1, HX.out]
      have HS : Hid (∀ a b, nameL 107 (keyAt h) h.length x2 = a → nameL 118 (valAt h) h.length x3 = b → recV evV ((h.take (k + 1)).map (shapeE h)) = recV evV ((h.take k).map (shapeE h)) ++ [.int .i64 x0, .int .i64 x1, .string ⟨a.toArray⟩, .string ⟨b.toArray⟩]) := by
        intro a b ha hb
        rw [List.take_succ_eq_append_getElem hk1, List.map_append, recV_append, HX.out]
        simp only [List.map_cons, List.map_nil, shapeE, ha, hb, recV, List.flatMap_cons, List.flatMap_nil, List.append_nil, evV]
      obtain ⟨DR, hDR⟩ : ∃ d, recV evV ((h.take k).map (shapeE h)) = d := ⟨_, rfl⟩
      rw [hDR] at hrow HS
      clear hDR
      have X1 : SBox (wo.alloc (.cells #[.int .i64 x0, .int .i64 x1, .string ⟨x2.toArray⟩, .string ⟨x3.toArray⟩] 23)) wo.heap.size 23 #[.int .i64 x0, .int .i64 x1, .string ⟨x2.toArray⟩, .string ⟨x3.toArray⟩] := SBox.new wo 23 #[.int .i64 x0, .int .i64 x1, .string ⟨x2.toArray⟩, .string ⟨x3.toArray⟩]
      have B1 := hbw.alloc hbw.size (.cells #[.int .i64 x0, .int .i64 x1, .string ⟨x2.toArray⟩, .string ⟨x3.toArray⟩] 23)
      have O1 := hrow.alloc (.cells #[.int .i64 x0, .int .i64 x1, .string ⟨x2.toArray⟩, .string ⟨x3.toArray⟩] 23)
      have hs1 := hbw.size
      have hne : some wo.heap.size ≠ (u3 : Value).ownBlock := fun e => by have := (hrow.lt _ e.symm).2; omega
      have f2 := X1.cell 2 _ rfl
      have f3 := X1.cell 3 _ rfl
      by_cases hkx : x2 = []
      · subst hkx
        by_cases hv : x3 = []
        · subst hv
          have g0pa := X1.cell 0 _ rfl
          have g1pa := X1.cell 1 _ rfl
          have g2pa := X1.cell 2 _ rfl
          have g3pa := X1.cell 3 _ rfl
          have szpa := B1.size
          have HVpa : Hid _ := HS.out _ _ (if_pos rfl) (if_pos rfl)
          go_wp2_with (at_builtin; refine wpList_append_own _ rfl _ _ 37 rfl w.heap.size 23 i0 (.agg #[.int .i64 0, .int .i64 0, .string ByteArray.empty, .string ByteArray.empty]) 4 48 Tryd.underlying37 hi hz0 hz1 hz2 rfl (by decide) _ _ _ rfl (O1.alloc _) ⟨wo.heap.size + 1, 0, none⟩ 1 1 [.int .i64 x0, .int .i64 x1, .string ⟨#[]⟩, .string ⟨#[]⟩] rfl rfl ?d1pa ?d2pa ?d3pa ?d4pa ?d5pa ?_)
          case d1pa =>
            intro j u hj
            match j, hj with
            | 0, hj => simp at hj; subst hj; first | (simp [Addr.add]; done) | exact cell_new7 (by simp) rfl
            | 1, hj => simp at hj; subst hj; first | (simp [Addr.add]; done) | exact cell_new7 (by simp) rfl
            | 2, hj => simp at hj; subst hj; first | (simp [Addr.add]; done) | exact cell_new7 (by simp) rfl
            | 3, hj => simp at hj; subst hj; first | (simp [Addr.add]; done) | exact cell_new7 (by simp) rfl
          case d2pa => exact evV_one (x0, x1, [], [])
          case d3pa => unfold maxLen; omega
          case d4pa => omega
          case d5pa => simp at szpa ⊢; omega
          intro v' w9 hown9 hgrow9 _
          have B9 : Below w.heap.size w w9 := (B1.alloc B1.size _).grown hgrow9 (by simp at szpa ⊢; omega) (fun j hj => (O1.lt j hj).1)
          go_wp2_with fail
          refine ⟨?relpa, ?meapa⟩
          case relpa => exact ⟨k + 1, by omega, by first | go_num | simp, B9, by rw [HVpa.out]; exact hown9⟩
          case meapa => simp [intOf]; omega
        · have nv := ne_nil7 x3 hv
          obtain ⟨fV, hfpv⟩ : ∃ f, fstAt (valAt h) h.length x3 = f := ⟨_, rfl⟩
          obtain ⟨s1pv, s2pv, s3pv⟩ : fV ≤ k ∧ valAt h fV = x3 ∧ ∀ j, j < fV → valAt h j ≠ x3 := by
            have := first_spec (valAt h) h.length k hk1
            rw [HVk.out, hfpv] at this
            exact this
          have HFpv : Hid (valAt h fV = x3) := s2pv
          have HUpv : Hid (∀ j, j < fV → valAt h j ≠ x3) := s3pv
          have HEpv : Hid (fstAt (valAt h) h.length x3 = fV) := hfpv
          clear s2pv s3pv hfpv
          go_wp2_with fail
          go_loopw [7] (fun i wq => ∃ q : Nat, q ≤ fV ∧ i = .int .i64 q ∧ Below (wo.alloc (.cells #[.int .i64 x0, .int .i64 x1, .string ⟨([] : List UInt8).toArray⟩, .string ⟨x3.toArray⟩] 23)).heap.size (wo.alloc (.cells #[.int .i64 x0, .int .i64 x1, .string ⟨([] : List UInt8).toArray⟩, .string ⟨x3.toArray⟩] 23)) wq) (fun i _ => fV - (intOf i).toNat)
          case atStart => exact ⟨0, Nat.zero_le _, rfl, Below.refl _ _⟩
          case round =>
            obtain ⟨q, hq, rfl, hbq⟩ := hrel
            obtain ⟨wpv, rfl⟩ : ∃ x, x = wr := ⟨_, rfl⟩
            have Bqpv := bel_trans B1 hbq
            have hqnpv : q < n := by omega
            have Cqpv := HQ.out q (by have := HN.out; omega) _ Bqpv
            by_cases hql : q < fV
            · have nepv : valAt h q ≠ x3 := HUpv.out q hql
              obtain ⟨y, hy⟩ : ∃ y, valAt h q = y := ⟨_, rfl⟩
              have cy := Cqpv.2
              rw [hy] at cy nepv
              have e0 : (y == x3) = false := beq_eq_false_iff_ne.2 nepv
              have e1 : (y != x3) = true := bne_iff_ne.2 nepv
              clear hy nepv Cqpv
              have Xq := X1.below hbq
              have fq := Xq.cell 2 _ rfl
              have hw3 := (HQ.out k hk1 _ Bqpv).2
              rw [HVk.out] at hw3
              go_wp2_with fail
              go_quiet (fail)
              go_wp2_with fail
              refine ⟨?relIpv, ?meaIpv⟩
              case relIpv => exact ⟨q + 1, by omega, by first | go_num | simp, below_drewN hbq _⟩
              case meaIpv => simp [intOf]; omega
            · obtain rfl : q = fV := by omega
              have cy := Cqpv.2
              rw [HFpv.out] at cy
              have e0 : (x3 == x3) = true := beq_self_eq_true _
              have e1 : (x3 != x3) = false := by simp
              clear Cqpv
              have Xq := X1.below hbq
              have fq := Xq.cell 2 _ rfl
              have hw3 := (HQ.out k hk1 _ Bqpv).2
              rw [HVk.out] at hw3
              obtain ⟨gs, hlpv⟩ : ∃ l, figsL q = l := ⟨_, rfl⟩
              have lenpv := figsL_len q 7 (by omega)
              have CF := fun W => rfigures_any q (by omega) W
              rw [hlpv] at lenpv CF
              have HLpv : Hid (figsL q = gs) := hlpv
              have zpv : 1 + gs.length ≤ 9223372036854775807 := by omega
              clear hlpv
              go_wp2_with fail
              go_quiet (fail)
              go_wp2_with fail
              refine (CF _).mono ?_
              rintro e wfpv ⟨rfl, bfpv⟩
              have b2 := bel_trans (below_drewN hbq _) bfpv
              have X3 := X1.below b2
              have k3 := X3.cell 3 _ rfl
              have l3 := X3.frozen 3
              have X4 := X3.set 3 (.string ⟨(118 :: gs).toArray⟩)
              have B4 := (bel_trans B1 b2).setCell (p := ⟨wo.heap.size, 3, none⟩) hs1 (.string ⟨(118 :: gs).toArray⟩)
              have O4 := owns_keep7 (j := 3) (owns_below O1 b2) (.string ⟨(118 :: gs).toArray⟩) hne
              have g0pvb := X4.cell 0 _ rfl
              have g1pvb := X4.cell 1 _ rfl
              have g2pvb := X4.cell 2 _ rfl
              have g3pvb := X4.cell 3 _ rfl
              have szpvb := B4.size
              have HVpvb : Hid _ := HS.out _ _ (if_pos rfl) ((by unfold nameL; rw [if_neg hv, HEpv.out, HLpv.out]))
              go_wp2_with (at_builtin; refine wpList_append_own _ rfl _ _ 37 rfl w.heap.size 23 i0 (.agg #[.int .i64 0, .int .i64 0, .string ByteArray.empty, .string ByteArray.empty]) 4 48 Tryd.underlying37 hi hz0 hz1 hz2 rfl (by decide) _ _ _ rfl (O4.alloc _) ⟨wfpv.heap.size, 0, none⟩ 1 1 [.int .i64 x0, .int .i64 x1, .string ⟨#[]⟩, .string ⟨(118 :: gs).toArray⟩] rfl rfl ?d1pvb ?d2pvb ?d3pvb ?d4pvb ?d5pvb ?_)
              case d1pvb =>
                intro j u hj
                match j, hj with
                | 0, hj => simp at hj; subst hj; first | (simp [Addr.add]; done) | exact cell_new7 (by simp) rfl
                | 1, hj => simp at hj; subst hj; first | (simp [Addr.add]; done) | exact cell_new7 (by simp) rfl
                | 2, hj => simp at hj; subst hj; first | (simp [Addr.add]; done) | exact cell_new7 (by simp) rfl
                | 3, hj => simp at hj; subst hj; first | (simp [Addr.add]; done) | exact cell_new7 (by simp) rfl
              case d2pvb => exact evV_one (x0, x1, [], 118 :: gs)
              case d3pvb => unfold maxLen; omega
              case d4pvb => omega
              case d5pvb => simp at szpvb ⊢; omega
              intro v' w9 hown9 hgrow9 _
              have B9 : Below w.heap.size w w9 := (B4.alloc B4.size _).grown hgrow9 (by simp at szpvb ⊢; omega) (fun j hj => (O4.lt j hj).1)
              go_wp2_with fail
              refine ⟨?relpvb, ?meapvb⟩
              case relpvb => exact ⟨k + 1, by omega, by first | go_num | simp, B9, by rw [HVpvb.out]; exact hown9⟩
              case meapvb => simp [intOf]; omega
      · have nk := ne_nil7 x2 hkx
        obtain ⟨fK, hfk⟩ : ∃ f, fstAt (keyAt h) h.length x2 = f := ⟨_, rfl⟩
        obtain ⟨s1k, s2k, s3k⟩ : fK ≤ k ∧ keyAt h fK = x2 ∧ ∀ j, j < fK → keyAt h j ≠ x2 := by
          have := first_spec (keyAt h) h.length k hk1
          rw [HKk.out, hfk] at this
          exact this
        have HFk : Hid (keyAt h fK = x2) := s2k
        have HUk : Hid (∀ j, j < fK → keyAt h j ≠ x2) := s3k
        have HEk : Hid (fstAt (keyAt h) h.length x2 = fK) := hfk
        clear s2k s3k hfk
        go_wp2_with fail
        go_loopw [6] (fun i wq => ∃ q : Nat, q ≤ fK ∧ i = .int .i64 q ∧ Below (wo.alloc (.cells #[.int .i64 x0, .int .i64 x1, .string ⟨x2.toArray⟩, .string ⟨x3.toArray⟩] 23)).heap.size (wo.alloc (.cells #[.int .i64 x0, .int .i64 x1, .string ⟨x2.toArray⟩, .string ⟨x3.toArray⟩] 23)) wq) (fun i _ => fK - (intOf i).toNat)
        case atStart => exact ⟨0, Nat.zero_le _, rfl, Below.refl _ _⟩
        case round =>
          obtain ⟨q, hq, rfl, hbq⟩ := hrel
          obtain ⟨wk, rfl⟩ : ∃ x, x = wr := ⟨_, rfl⟩
          have Bqk := bel_trans B1 hbq
          have hqnk : q < n := by omega
          have Cqk := HQ.out q (by have := HN.out; omega) _ Bqk
          by_cases hql : q < fK
          · have nek : keyAt h q ≠ x2 := HUk.out q hql
            obtain ⟨y, hy⟩ : ∃ y, keyAt h q = y := ⟨_, rfl⟩
            have cy := Cqk.1
            rw [hy] at cy nek
            have e0 : (y == x2) = false := beq_eq_false_iff_ne.2 nek
            have e1 : (y != x2) = true := bne_iff_ne.2 nek
            clear hy nek Cqk
            have Xq := X1.below hbq
            have fq := Xq.cell 2 _ rfl
            have hw3 := (HQ.out k hk1 _ Bqk).2
            rw [HVk.out] at hw3
            go_wp2_with fail
            go_quiet (fail)
            go_wp2_with fail
            refine ⟨?relIk, ?meaIk⟩
            case relIk => exact ⟨q + 1, by omega, by first | go_num | simp, below_drewN hbq _⟩
            case meaIk => simp [intOf]; omega
          · obtain rfl : q = fK := by omega
            have cy := Cqk.1
            rw [HFk.out] at cy
            have e0 : (x2 == x2) = true := beq_self_eq_true _
            have e1 : (x2 != x2) = false := by simp
            clear Cqk
            have Xq := X1.below hbq
            have fq := Xq.cell 2 _ rfl
            have hw3 := (HQ.out k hk1 _ Bqk).2
            rw [HVk.out] at hw3
            obtain ⟨fs, hlk⟩ : ∃ l, figsL q = l := ⟨_, rfl⟩
            have lenk := figsL_len q 7 (by omega)
            have CF := fun W => rfigures_any q (by omega) W
            rw [hlk] at lenk CF
            have HLk : Hid (figsL q = fs) := hlk
            have zk : 1 + fs.length ≤ 9223372036854775807 := by omega
            clear hlk
            go_wp2_with fail
            go_quiet (fail)
            go_wp2_with fail
            refine (CF _).mono ?_
            rintro e wfk ⟨rfl, bfk⟩
            have b2 := bel_trans (below_drewN hbq _) bfk
            have X2 := X1.below b2
            have k2 := X2.cell 2 _ rfl
            have l2 := X2.frozen 2
            have X3' := X2.set 2 (.string ⟨(107 :: fs).toArray⟩)
            have B3' := (bel_trans B1 b2).setCell (p := ⟨wo.heap.size, 2, none⟩) hs1 (.string ⟨(107 :: fs).toArray⟩)
            have O3' := owns_keep7 (j := 2) (owns_below O1 b2) (.string ⟨(107 :: fs).toArray⟩) hne
            have f3' := X3'.cell 3 _ rfl
            clear f2 f3 fq
            by_cases hv : x3 = []
            · subst hv
              have g0ra := X3'.cell 0 _ rfl
              have g1ra := X3'.cell 1 _ rfl
              have g2ra := X3'.cell 2 _ rfl
              have g3ra := X3'.cell 3 _ rfl
              have szra := B3'.size
              have HVra : Hid _ := HS.out _ _ ((by unfold nameL; rw [if_neg hkx, HEk.out, HLk.out])) (if_pos rfl)
              go_wp2_with (at_builtin; refine wpList_append_own _ rfl _ _ 37 rfl w.heap.size 23 i0 (.agg #[.int .i64 0, .int .i64 0, .string ByteArray.empty, .string ByteArray.empty]) 4 48 Tryd.underlying37 hi hz0 hz1 hz2 rfl (by decide) _ _ _ rfl (O3'.alloc _) ⟨wfk.heap.size, 0, none⟩ 1 1 [.int .i64 x0, .int .i64 x1, .string ⟨(107 :: fs).toArray⟩, .string ⟨#[]⟩] rfl rfl ?d1ra ?d2ra ?d3ra ?d4ra ?d5ra ?_)
              case d1ra =>
                intro j u hj
                match j, hj with
                | 0, hj => simp at hj; subst hj; first | (simp [Addr.add]; done) | exact cell_new7 (by simp) rfl
                | 1, hj => simp at hj; subst hj; first | (simp [Addr.add]; done) | exact cell_new7 (by simp) rfl
                | 2, hj => simp at hj; subst hj; first | (simp [Addr.add]; done) | exact cell_new7 (by simp) rfl
                | 3, hj => simp at hj; subst hj; first | (simp [Addr.add]; done) | exact cell_new7 (by simp) rfl
              case d2ra => exact evV_one (x0, x1, 107 :: fs, [])
              case d3ra => unfold maxLen; omega
              case d4ra => omega
              case d5ra => simp at szra ⊢; omega
              intro v' w9 hown9 hgrow9 _
              have B9 : Below w.heap.size w w9 := (B3'.alloc B3'.size _).grown hgrow9 (by simp at szra ⊢; omega) (fun j hj => (O3'.lt j hj).1)
              go_wp2_with fail
              refine ⟨?relra, ?meara⟩
              case relra => exact ⟨k + 1, by omega, by first | go_num | simp, B9, by rw [HVra.out]; exact hown9⟩
              case meara => simp [intOf]; omega
            · have nv := ne_nil7 x3 hv
              obtain ⟨fV, hfrv⟩ : ∃ f, fstAt (valAt h) h.length x3 = f := ⟨_, rfl⟩
              obtain ⟨s1rv, s2rv, s3rv⟩ : fV ≤ k ∧ valAt h fV = x3 ∧ ∀ j, j < fV → valAt h j ≠ x3 := by
                have := first_spec (valAt h) h.length k hk1
                rw [HVk.out, hfrv] at this
                exact this
              have HFrv : Hid (valAt h fV = x3) := s2rv
              have HUrv : Hid (∀ j, j < fV → valAt h j ≠ x3) := s3rv
              have HErv : Hid (fstAt (valAt h) h.length x3 = fV) := hfrv
              clear s2rv s3rv hfrv
              go_wp2_with fail
              go_loopw [7] (fun i wq => ∃ q : Nat, q ≤ fV ∧ i = .int .i64 q ∧ Below (wfk.setCell ⟨wo.heap.size, 2, none⟩ (.string ⟨(107 :: fs).toArray⟩)).heap.size (wfk.setCell ⟨wo.heap.size, 2, none⟩ (.string ⟨(107 :: fs).toArray⟩)) wq) (fun i _ => fV - (intOf i).toNat)
              case atStart => exact ⟨0, Nat.zero_le _, rfl, Below.refl _ _⟩
              case round =>
                obtain ⟨q, hq, rfl, hbq⟩ := hrel
                obtain ⟨wrv, rfl⟩ : ∃ x, x = wr := ⟨_, rfl⟩
                have Bqrv := bel_trans B3' hbq
                have hqnrv : q < n := by omega
                have Cqrv := HQ.out q (by have := HN.out; omega) _ Bqrv
                by_cases hql : q < fV
                · have nerv : valAt h q ≠ x3 := HUrv.out q hql
                  obtain ⟨y, hy⟩ : ∃ y, valAt h q = y := ⟨_, rfl⟩
                  have cy := Cqrv.2
                  rw [hy] at cy nerv
                  have e0 : (y == x3) = false := beq_eq_false_iff_ne.2 nerv
                  have e1 : (y != x3) = true := bne_iff_ne.2 nerv
                  clear hy nerv Cqrv
                  have Xq := X3'.below hbq
                  have fq := Xq.cell 2 _ rfl
                  have hw3 := (HQ.out k hk1 _ Bqrv).2
                  rw [HVk.out] at hw3
                  go_wp2_with fail
                  go_quiet (fail)
                  go_wp2_with fail
                  refine ⟨?relIrv, ?meaIrv⟩
                  case relIrv => exact ⟨q + 1, by omega, by first | go_num | simp, below_drewN hbq _⟩
                  case meaIrv => simp [intOf]; omega
                · obtain rfl : q = fV := by omega
                  have cy := Cqrv.2
                  rw [HFrv.out] at cy
                  have e0 : (x3 == x3) = true := beq_self_eq_true _
                  have e1 : (x3 != x3) = false := by simp
                  clear Cqrv
                  have Xq := X3'.below hbq
                  have fq := Xq.cell 2 _ rfl
                  have hw3 := (HQ.out k hk1 _ Bqrv).2
                  rw [HVk.out] at hw3
                  obtain ⟨gs, hlrv⟩ : ∃ l, figsL q = l := ⟨_, rfl⟩
                  have lenrv := figsL_len q 7 (by omega)
                  have CF := fun W => rfigures_any q (by omega) W
                  rw [hlrv] at lenrv CF
                  have HLrv : Hid (figsL q = gs) := hlrv
                  have zrv : 1 + gs.length ≤ 9223372036854775807 := by omega
                  clear hlrv
                  go_wp2_with fail
                  go_quiet (fail)
                  go_wp2_with fail
                  refine (CF _).mono ?_
                  rintro e wfrv ⟨rfl, bfrv⟩
                  have b2 := bel_trans (below_drewN hbq _) bfrv
                  have X3 := X3'.below b2
                  have k3 := X3.cell 3 _ rfl
                  have l3 := X3.frozen 3
                  have X4 := X3.set 3 (.string ⟨(118 :: gs).toArray⟩)
                  have B4 := (bel_trans B3' b2).setCell (p := ⟨wo.heap.size, 3, none⟩) hs1 (.string ⟨(118 :: gs).toArray⟩)
                  have O4 := owns_keep7 (j := 3) (owns_below O3' b2) (.string ⟨(118 :: gs).toArray⟩) hne
                  have g0rvb := X4.cell 0 _ rfl
                  have g1rvb := X4.cell 1 _ rfl
                  have g2rvb := X4.cell 2 _ rfl
                  have g3rvb := X4.cell 3 _ rfl
                  have szrvb := B4.size
                  have HVrvb : Hid _ := HS.out _ _ ((by unfold nameL; rw [if_neg hkx, HEk.out, HLk.out])) ((by unfold nameL; rw [if_neg hv, HErv.out, HLrv.out]))
                  go_wp2_with (at_builtin; refine wpList_append_own _ rfl _ _ 37 rfl w.heap.size 23 i0 (.agg #[.int .i64 0, .int .i64 0, .string ByteArray.empty, .string ByteArray.empty]) 4 48 Tryd.underlying37 hi hz0 hz1 hz2 rfl (by decide) _ _ _ rfl (O4.alloc _) ⟨wfrv.heap.size, 0, none⟩ 1 1 [.int .i64 x0, .int .i64 x1, .string ⟨(107 :: fs).toArray⟩, .string ⟨(118 :: gs).toArray⟩] rfl rfl ?d1rvb ?d2rvb ?d3rvb ?d4rvb ?d5rvb ?_)
                  case d1rvb =>
                    intro j u hj
                    match j, hj with
                    | 0, hj => simp at hj; subst hj; first | (simp [Addr.add]; done) | exact cell_new7 (by simp) rfl
                    | 1, hj => simp at hj; subst hj; first | (simp [Addr.add]; done) | exact cell_new7 (by simp) rfl
                    | 2, hj => simp at hj; subst hj; first | (simp [Addr.add]; done) | exact cell_new7 (by simp) rfl
                    | 3, hj => simp at hj; subst hj; first | (simp [Addr.add]; done) | exact cell_new7 (by simp) rfl
                  case d2rvb => exact evV_one (x0, x1, 107 :: fs, 118 :: gs)
                  case d3rvb => unfold maxLen; omega
                  case d4rvb => omega
                  case d5rvb => simp at szrvb ⊢; omega
                  intro v' w9 hown9 hgrow9 _
                  have B9 : Below w.heap.size w w9 := (B4.alloc B4.size _).grown hgrow9 (by simp at szrvb ⊢; omega) (fun j hj => (O4.lt j hj).1)
                  go_wp2_with fail
                  refine ⟨?relrvb, ?mearvb⟩
                  case relrvb => exact ⟨k + 1, by omega, by first | go_num | simp, B9, by rw [HVrvb.out]; exact hown9⟩
                  case mearvb => simp [intOf]; omega
    · obtain rfl : k = n := by omega
      have HF : Hid (h.take k = h) := List.take_of_length_le (by have := HN.out; omega)
      go_wp2_with fail
      go_ret
      refine ⟨_, rfl, hbw, ?_⟩
      rw [HF.out] at hrow
      show World.ownsRow _ _ _ _ _ (shapeL h).length _
      rw [shape_len, HN.out]
      exact hrow
end Go.Proofs.YtihggfkenhkglaaDoor
