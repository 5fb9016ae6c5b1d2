/-
  What ring.Order answers: its loops.
-/
import Derived.Test.YtpfpkpaodlmlaaaGL
namespace Go.Proofs.Ytpfpkpaodlmlaaa
set_option maxRecDepth 100000
open Go.RowKit Go.Maps
set_option linter.unusedVariables false
attribute [local go_sem] ba_size
theorem cntF_at (l : List Stp) (S : Int → Bool) (x : Int) (h : S x = true) : cntF l S x = some ((inC l S x : Int), (outC l S x : Int)) := by unfold cntF; rw [if_pos h]
def firstZ (l : List Stp) (N : List Int) (k : Nat) (a : List Int) : Prop := a.Nodup ∧ ∀ x, x ∈ a ↔ x ∈ N.take k ∧ inC l (inN N) x = 0
theorem firstZ_next (l : List Stp) (N : List Int) (hN : N.Nodup) (k : Nat) (hk : k < N.length) (a b : List Int) (h : firstZ l N k a) (hb : (((inC l (inN N) N[k] : Nat) : Int) = 0 ∧ b.Perm (N[k] :: a)) ∨ (((inC l (inN N) N[k] : Nat) : Int) ≠ 0 ∧ b = a)) : firstZ l N (k + 1) b := by
  have hm : ∀ x, x ∈ N.take (k + 1) ↔ x ∈ N.take k ∨ x = N[k] := fun x => by rw [List.take_succ_eq_append_getElem hk, List.mem_append, List.mem_singleton]
  have hnot : N[k] ∉ N.take k := by
    intro hh
    obtain ⟨j, hj, e⟩ := List.getElem_of_mem hh
    rw [List.length_take] at hj
    rw [List.getElem_take] at e
    have := (List.nodup_iff_pairwise_ne.1 hN)
    exact (List.pairwise_iff_getElem.1 this) j k (by omega) hk (by omega) e
  rcases hb with ⟨h0, hp⟩ | ⟨h0, rfl⟩
  · refine ⟨hp.nodup_iff.2 (List.nodup_cons.2 ⟨fun hh => hnot ((h.2 _).1 hh).1, h.1⟩), fun x => ?_⟩
    rw [hp.mem_iff, List.mem_cons, h.2 x, hm x]
    constructor
    · rintro (rfl | ⟨h1, h2⟩)
      · exact ⟨.inr rfl, by omega⟩
      · exact ⟨.inl h1, h2⟩
    · rintro ⟨h1 | h1, h2⟩
      · exact .inr ⟨h1, h2⟩
      · exact .inl h1
  · refine ⟨h.1, fun x => ?_⟩
    rw [h.2 x, hm x]
    constructor
    · rintro ⟨h1, h2⟩; exact ⟨.inl h1, h2⟩
    · rintro ⟨h1 | h1, h2⟩
      · exact ⟨h1, h2⟩
      · subst h1; omega
set_option maxHeartbeats 8000000 in
theorem porder11_any (nodes : List Int) (l : List Stp) (vn vl : Value) (w : World) (hO : IsInts w vn nodes) (hSv : Shp vn) (okn : ∀ x ∈ nodes, okS x) (hT : IsSts w vl l) (hSl : Shp vl) (okl : ∀ x ∈ l, goodSt x) (hn : nodes.length ≤ 17592186043904) (hl : l.length ≤ 3518437208780) :
    Calls Try.prog 12 #[vn, vl] w fun e w' => OrdRes w (orderL nodes l) e w' := by
  obtain ⟨i0, hi, hz0, hz1, hz2⟩ := info_parts int_info
  have CW := pweave11_any vn vl nodes l w hO hSv okn hn hT hSl okl hl
  obtain ⟨al, cl, rfl, _⟩ := sts_at hT
  obtain ⟨an, cn, rfl, _⟩ := hO.some_at
  clear hO hSv okn hT hSl okl
  go_enter Try.func12, Try.ntmps12
  go_wp2_with fail
  refine CW.mono ?_
  rintro e Wc ⟨N, vN, m1, m2, m3, rfl, hNum, bC, hWeb, hCM, hm1⟩
  obtain ⟨aN, cN, rfl, n1, n2, n3, _⟩ := hWeb.nums.some_at
  have HWeb := Lib.hid hWeb
  have HNum := Lib.hid hNum
  have HbC := Lib.hid bC
  have hNle := hWeb.fewN
  have hml := isMap_lt hWeb.isM
  obtain ⟨nN, hnN⟩ : ∃ nN, N.length = nN := ⟨_, rfl⟩
  have HNN := Lib.hid hnN
  rw [hnN] at n1 n3 hNle HWeb
  rw [hnN]
  obtain ⟨bw, hbw⟩ : ∃ bw, Wc.heap.size = bw := ⟨_, rfl⟩
  have Hbw := Lib.hid hbw
  obtain ⟨nl, hnl⟩ : ∃ nl, l.length = nl := ⟨_, rfl⟩
  rw [hnl] at HWeb ⊢
  obtain ⟨W2, hW2⟩ : ∃ W2, (Wc.alloc (.cells (webC (.slice al nl cl) (.slice aN nN cN) m1 m2 m3) tW)).alloc (.cells #[.slice none 0 0] tR) = W2 := ⟨_, rfl⟩
  have hO2 : OrS W2 bw (bw + 1) (webC (.slice al nl cl) (.slice aN nN cN) m1 m2 m3) (.slice none 0 0) [] [] := by
    rw [← hW2, ← hbw]
    refine ⟨(SBox.new Wc tW _).alloc _, ⟨Nat.le_refl _, .slice none 0 0, ?_, World.ownsRow_nil _ _ _ _⟩, heaped_nil, World.ownsRow_nil _ _ _ _, fun g hg => by simp [Value.ownBlock] at hg⟩
    have := Boxed.new (Wc.alloc (.cells (webC (.slice al nl cl) (.slice aN nN cN) m1 m2 m3) tW)) tR (.slice none 0 0)
    simpa using this
  have hg2 : Wc.grownBy W2 (some m1) := by rw [← hW2]; exact (World.grownBy_alloc _ _ _).trans (World.grownBy_alloc _ _ _)
  have HO2 := Lib.hid hO2
  have Hg2 := Lib.hid hg2
  have HC2 : Hid (CMap W2 m1 17592186044416 (cntF l (inN N))) := hCM.kept (by rw [← hW2]; exact (World.grownBy_alloc _ _ none).trans (World.grownBy_alloc _ _ none) : Wc.grownBy W2 none) (by simp)
  have x1 := hO2.bx.cell 1 _ rfl
  rw [hbw] at hml
  clear hWeb hNum bC hCM hnN hnl hO2 hg2 CW
  go_wp2_with fail
  go_loopw [20] (fun i wr => ∃ (k : Nat) (a : List Int), k ≤ nN ∧ i = .int .i64 (k : Int) ∧ Hid (OrS wr bw (bw + 1) (webC (.slice al nl cl) (.slice aN nN cN) m1 m2 m3) (.slice none 0 0) [] a) ∧ Hid (firstZ l N k a) ∧ Hid (CMap wr m1 17592186044416 (cntF l (inN N))) ∧ Hid (Wc.grownBy wr (some m1))) (fun i _ => nN - (intOf i).toNat)
  case atStart => exact ⟨0, [], Nat.zero_le _, rfl, HO2, ⟨List.nodup_nil, fun x => by simp⟩, HC2, Hg2⟩
  case round =>
    obtain ⟨k, a, hk, rfl, HO, HZ, HC, HG⟩ := hrel
    by_cases hlt : k < nN
    · have j0 : (k : Int) < (nN : Int) := by omega
      have hkN : k < N.length := by have := HNN.out; omega
      obtain ⟨aN', cN', ef, _, _, _, HQ⟩ := IsInts.reads (HWeb.out.nums.turned intV_len (by omega) HWeb.out.isM HG.out)
      obtain ⟨bN, oN, ea, HQ2⟩ := HQ.out (by omega)
      have cell := HQ2.out k hkN wr (Below.refl _ _)
      rw [getD_at N 0 k hkN] at cell
      obtain ⟨rfl, rfl⟩ : aN = aN' ∧ cN = cN' := by
        have hh := HNN.out
        simpa [hh] using ef
      subst ea
      have hInN : inN N N[k] = true := by unfold inN; simp
      have hIx : I64 N[k] := HWeb.out.okN _ (List.getElem_mem hkN)
      have hla : a.length ≤ N.length := List.Nodup.length_le_of_subset HZ.out.1 fun y hy => List.mem_of_mem_take ((HZ.out.2 y).1 hy).1
      have CR := pready11_any wr (.slice al nl cl) (.slice (some ⟨bN, oN, none⟩) nN cN) m1 m2 m3 17592186044416 (cntF l (inN N)) N[k] _ (bw + 1) (bw + 1) bw a HO.out.bx HC.out (cntF_at l (inN N) N[k] hInN) hIx HO.out.hp HO.out.hh (by have := HNN.out; omega)
      have HNx := Lib.hid (firstZ_next l N HNum.out.nodup k hkN a)
      simp only at CR
      obtain ⟨ci, hci⟩ : ∃ ci : Int, ((inC l (inN N) N[k] : Nat) : Int) = ci := ⟨_, rfl⟩
      rw [hci] at CR HNx
      obtain ⟨y, hy⟩ : ∃ y, N[k] = y := ⟨_, rfl⟩
      rw [hy] at CR HNx cell hIx
      clear ef hci hy hInN HQ HQ2 hla
      go_wp2_with fail
      refine CR.mono ?_
      rintro e w1 ⟨rfl, ⟨b, r1, r2, r3⟩, fr⟩
      have HO1 := Lib.hid (HO.out.fr fr r1 r2)
      have HZ1 := Lib.hid (HNx.out b HZ.out r3)
      have HC1 : Hid (CMap w1 m1 17592186044416 (cntF l (inN N))) := HC.out.bel fr.bel (by omega)
      have HG1 : Hid (Wc.grownBy w1 (some m1)) := ⟨fr.bel.os.trans HG.out.os, fr.bel.tape.trans HG.out.tape, fr.bel.output.trans HG.out.output, Nat.le_trans HG.out.size fr.bel.size, fun q hq hne => (fr.bel.block q (by have := Hbw.out; omega)).trans (HG.out.block q hq hne)⟩
      clear r1 r2 r3
      go_wp2_with fail
      refine ⟨⟨k + 1, b, by omega, by first | go_num | simp, HO1, HZ1, HC1, HG1⟩, by simp [intOf]; omega⟩
    · obtain rfl : nN = k := by omega
      have jq : ¬ (nN : Int) < (nN : Int) := by omega
      have HZs : Hid (Zeros (cntF l (inN N)) a) := zeros_all l N a HNum.out.nodup HZ.out.1 (fun x => by
        have := HZ.out.2 x
        rw [← HNN.out, List.take_length] at this
        exact this)
      have HI0 : Hid (ordI nodes l (leftL nodes (inN N)) []) := by
        have e : leftL nodes (inN N) = nodes := by
          unfold leftL
          rw [List.filter_eq_self]
          intro x hx
          unfold inN
          simpa using (HNum.out.2.1 x).2 hx
        rw [e]
        exact ordI_start nodes l
      have HfN : Hid ((N.filter (inN N)).length = nN) := by
        show _ = _
        rw [List.filter_eq_self.2 (fun x hx => by unfold inN; simpa using hx)]
        exact HNN.out
      have HSs : Hid (∀ x, inN N x = true → x ∈ N) := fun x hx => by unfold inN at hx; simpa using hx
      obtain ⟨wB, hwB⟩ : ∃ wB, wB = wr := ⟨_, rfl⟩
      have HO' : Hid (OrS wB bw (bw + 1) (webC (.slice al nl cl) (.slice aN nN cN) m1 m2 m3) (.slice none 0 0) [] a) := by rw [hwB]; exact HO
      have HC' : Hid (CMap wB m1 17592186044416 (cntF l (inN N))) := by rw [hwB]; exact HC
      have HG' : Hid (Wc.grownBy wB (some m1)) := by rw [hwB]; exact HG
      subst hwB
      clear HO HZ HC HG
      go_wp2_with fail
      go_loopw [11] (fun ov wr => ∃ (S : Int → Bool) (a out : List Int), Hid (OrS wr bw (bw + 1) (webC (.slice al nl cl) (.slice aN nN cN) m1 m2 m3) ov out a) ∧ Hid (Zeros (cntF l S) a) ∧ Hid (CMap wr m1 17592186044416 (cntF l S)) ∧ Hid (Wc.grownBy wr (some m1)) ∧ Hid (ordI nodes l (leftL nodes S) out) ∧ Hid (∀ x, S x = true → x ∈ N) ∧ Hid (out.length + (N.filter S).length ≤ nN)) (fun ov _ => nN - slLen ov)
      case atStart => exact ⟨inN N, a, [], HO', HZs, HC', HG', HI0, HSs, by show _ ≤ _; rw [HfN.out]; simp⟩
      case round =>
        obtain ⟨S, a, out, HO, HZ, HC, HG, HI, HS, HF⟩ := hrel
        obtain ⟨adr, cc, hbx⟩ := HO.out.hp.cell0
        have p0 := hbx.cell
        have hla := zeros_few HZ.out HS.out
        have hF := HF.out
        have CL := plen11_any adr a.length cc wr
        have x0 := HO.out.bx.cell 0 _ rfl
        have x1 := HO.out.bx.cell 1 _ rfl
        have x2 := HO.out.bx.cell 2 _ rfl
        have x3 := HO.out.bx.cell 3 _ rfl
        have x4 := HO.out.bx.cell 4 _ rfl
        by_cases ha : a = []
        · subst ha
          simp only [List.length_nil] at p0 CL
          have HNb := Lib.hid (no_best nodes l S (fun x hx => (HNum.out.2.1 x).1 (HS.out x hx)) HZ.out)
          have hCm := HC.out
          unfold CMap at hCm
          have hkn : (N.filter S).Nodup := by rw [List.nodup_iff_pairwise_ne]; exact List.Pairwise.filter _ (List.nodup_iff_pairwise_ne.1 HNum.out.nodup)
          have hkm : ∀ t, t ∈ N.filter S ↔ ((cntF l S t).map cntV).isSome = true := fun t => by
            rw [List.mem_filter, Option.isSome_map]
            unfold cntF
            by_cases h : S t = true
            · rw [if_pos h]; simp [h, HS.out t h]
            · rw [if_neg h]; simp [h]
          have HB : Hid (Below w.heap.size w wr) := HbC.out.grown HG.out (by have := HbC.out.size; omega) (fun j hj => by cases hj; exact hm1)
          have hws : w.heap.size ≤ bw := by have := HbC.out.size; have := Hbw.out; omega
          by_cases hleft : N.filter S = []
          · have HL : Hid (leftL nodes S = []) := by
              show _ = _
              unfold leftL
              rw [List.filter_eq_nil_iff] at hleft ⊢
              intro x hx
              exact hleft x ((HNum.out.2.1 x).2 hx)
            have HE : Hid (orderL nodes l = some out) := ordI_end nodes l out (by rw [← HL.out]; exact HI.out)
            have hn0 : (N.filter S).length = 0 := by rw [hleft]; rfl
            have HOw := Lib.hid HO.out.ow
            clear hleft hbx hF hla
            go_wp2_with fail
            refine CL.mono ?_
            rintro e w1 ⟨rfl, rfl⟩
            go_wp2_with (at_len; refine wpl_len _ rfl _ tML rfl tC Try.underlying41 m1 _ _ rfl hCm (N.filter S) hkn hkm ?_)
            go_ret2
            rw [HE.out]
            refine ⟨_, rfl, HB.out, ?_⟩
            show World.ownsRow _ _ _ _ _ out.length (recV intV out)
            rw [iV_rec]
            have := HOw.out
            rcases this.2 with ⟨e1, e2⟩ | ⟨g, cp, cur, e1, e2, e3⟩
            · exact ⟨this.1, .inl ⟨e1, e2⟩⟩
            · exact ⟨this.1, .inr ⟨g, cp, cur, e1, by omega, e3⟩⟩
          · have HNe : Hid (leftL nodes S ≠ []) := by
              intro h
              apply hleft
              unfold leftL at h
              rw [List.filter_eq_nil_iff] at h ⊢
              intro x hx
              exact h x ((HNum.out.2.1 x).1 hx)
            have HE : Hid (orderL nodes l = none) := ordI_none nodes l _ out HI.out HNe.out HNb.out
            have hn0 : 0 < (N.filter S).length := List.length_pos_iff.2 hleft
            have hn1 : (0 : Int) < ((N.filter S).length : Int) := by omega
            clear hleft hbx hF hla
            go_wp2_with fail
            refine CL.mono ?_
            rintro e w1 ⟨rfl, rfl⟩
            go_wp2_with (at_len; refine wpl_len _ rfl _ tML rfl tC Try.underlying41 m1 _ _ rfl hCm (N.filter S) hkn hkm ?_)
            go_ret2
            rw [HE.out]
            exact ⟨_, rfl, HB.out, World.ownsRow_nil _ _ _ _⟩
        · have ha0 : 0 < a.length := List.length_pos_iff.2 ha
          have ha1 : (0 : Int) < (a.length : Int) := by omega
          have hN9 := HNN.out
          have hff : (N.filter S).length ≤ N.length := List.length_filter_le _ _
          have CP := pleast11_any wr (bw + 1) (bw + 1) a HO.out.hp HO.out.hh ha0 (by omega)
          clear hbx ha
          go_wp2_with fail
          refine CL.mono ?_
          rintro e w1 ⟨rfl, rfl⟩
          go_wp2_with fail
          refine CP.mono ?_
          rintro e w2 ⟨⟨x, b, rfl, hb2, hpop⟩, fr2⟩
          obtain ⟨q1, q2, q3, q4⟩ := next_best nodes l S (fun x hx => (HNum.out.2.1 x).1 (HS.out x hx)) a HZ.out x b hpop
          have hO2 := HO.out.fr fr2 hb2 hpop.1
          have HZ2 := Lib.hid (zeros_del l S a b x HZ.out hpop.2.1)
          have HC2 : Hid (CMap w2 m1 17592186044416 (cntF l S)) := HC.out.bel fr2.bel (by omega)
          have HG2 : Hid (Wc.grownBy w2 (some m1)) := ⟨fr2.bel.os.trans HG.out.os, fr2.bel.tape.trans HG.out.tape, fr2.bel.output.trans HG.out.output, Nat.le_trans HG.out.size fr2.bel.size, fun q hq hne => (fr2.bel.block q (by have := Hbw.out; omega)).trans (HG.out.block q hq hne)⟩
          have hxN : x ∈ N := HS.out x q2
          have hdl := filter_drop_lt N S x hxN q2
          have HIn : Hid (ordI nodes l (leftL nodes (dropB S x)) (out ++ [x])) := by
            show ordI _ _ _ _
            rw [left_drop]
            exact ordI_next nodes l _ out x HI.out (fun e => by rw [e] at q1; simp [bestL, minI] at q1) q1
          have HSn : Hid (∀ y, dropB S x y = true → y ∈ N) := fun y hy => HS.out y (by unfold dropB at hy; simp at hy; exact hy.1)
          obtain ⟨ao, co, rfl⟩ := own_shape11 hO2.ow
          have HO2 := Lib.hid hO2
          have how := hO2.ow
          have Hq2 := Lib.hid q2
          have Hq3 := Lib.hid q3
          obtain ⟨no, hno⟩ : ∃ no, out.length = no := ⟨_, rfl⟩
          have Hno := Lib.hid hno
          rw [hno] at how hF
          rw [hno]
          have hsz2 : bw + 1 ≤ w2.heap.size := by have := hO2.hp.lt; omega
          clear hO2 hb2 hpop q1 q2 q3 q4 hno x0 x1 x2 x3 x4 p0
          go_wp2_with (at_builtin; refine wpList_append_own_at _ rfl _ _ 22 rfl (bw + 1) 3 i0 (.int .i64 0) 1 8 Try.underlying22 hi hz0 hz1 hz2 rfl (by decide) (.slice ao no co) _ _ rfl (how.alloc _) ⟨w2.heap.size, 0, none⟩ 1 1 [.int .i64 x] rfl rfl ?a1 ?a2 ?a3 ?a4 ?a5 ?_)
          case a1 => intro j u hj; match j, hj with
            | 0, hj => simp at hj; subst hj; simp [Addr.add]
          case a2 => intro u hu; simp at hu; subst hu; rfl
          case a3 => unfold maxLen; omega
          case a4 => omega
          case a5 => simp; omega
          intro r3 w3 hown3 hg3 _ hat3
          obtain ⟨a3, c3, rfl⟩ := own_shape11 hown3
          have B3 : Below (bw + 1) w2 w3 := ((Below.refl (bw + 1) w2).alloc hsz2 _).grown hg3 (by simp; omega) (fun j hj => (how.lt j hj).1)
          have hC3 : CMap w3 m1 17592186044416 (cntF l S) := HC2.out.bel B3 (by omega)
          have hG3 : Wc.grownBy w3 (some m1) := ⟨B3.os.trans HG2.out.os, B3.tape.trans HG2.out.tape, B3.output.trans HG2.out.output, Nat.le_trans HG2.out.size B3.size, fun q hq hne => (B3.block q (by have := Hbw.out; omega)).trans (HG2.out.block q hq hne)⟩
          rw [← Hno.out] at hown3 hg3 hat3
          have hO3 := HO2.out.order _ hown3 hg3 (by simpa using hat3)
          rw [Hno.out] at hO3
          have CT := ptakeO_any Wc w3 l N (.slice al nl cl) (.slice aN nN cN) m1 m2 m3 HWeb.out S HS.out hC3 hG3 x Hq2.out Hq3.out bw (bw + 1) Hbw.out rfl _ (out ++ [x]) b hO3 HZ2.out
          have y0 := hO3.bx.cell 0 _ rfl
          have y1 := hO3.bx.cell 1 _ rfl
          have y2 := hO3.bx.cell 2 _ rfl
          have y3 := hO3.bx.cell 3 _ rfl
          have y4 := hO3.bx.cell 4 _ rfl
          have HFn : Hid ((out ++ [x]).length + (N.filter (dropB S x)).length ≤ nN) := by
            show _ ≤ _
            rw [List.length_append, Hno.out]
            simp only [List.length_singleton]
            omega
          clear hown3 hg3 hat3 hO3 hC3 hG3 B3 how
          go_wp2_with fail
          refine CT.mono ?_
          rintro e w4 ⟨rfl, ⟨a4, hO4, hz4⟩, hc4, hg4⟩
          have HO4 := Lib.hid hO4
          have HZ4 := Lib.hid hz4
          have HC4 := Lib.hid hc4
          have HG4 := Lib.hid hg4
          clear hO4 hz4 hc4 hg4
          go_wp2_with fail
          refine ⟨⟨dropB S x, a4, out ++ [x], HO4, HZ4, HC4, HG4, HIn, HSn, HFn⟩, by have hno := Hno.out; simp [slLen]; omega⟩
end Go.Proofs.Ytpfpkpaodlmlaaa
