/-
  What cartoucheref11.ways answers.
-/
import Derived.Test.YtpfpkpaodlmlaaaGF
import Derived.Deep.RegionHeld3
import Derived.Lib.Hide
import Derived.BigQuiet
import Derived.Deep.QuietTactic
namespace Go.Proofs.Ytpfpkpaodlmlaaa
set_option maxRecDepth 100000
open Go.RowKit
set_option linter.unusedVariables false
set_option linter.unusedSimpArgs false
attribute [local go_sem] ba_size
set_option maxHeartbeats 4000000 in
theorem rways_any (vl : Value) (l : List Stp) (to : Int) (many : Nat) (w : World) (hT : IsSts w vl l) (hl9 : l.length ≤ 1000000000) (hm9 : many ≤ 1000000000) :
    Calls Try.prog 40 #[vl, .int .i64 to, .int .i64 (many : Int)] w fun e w' => WaysRes w l to many e w' := by
  obtain ⟨i0, hi, hz0, hz1, hz2⟩ := info_parts int_info
  obtain ⟨j0, ji, jz0, jz1, jz2⟩ := info_parts sl_info
  obtain ⟨al, cl, rfl, p1, p2, p3, HL⟩ := hT.reads
  obtain ⟨m, hm⟩ : ∃ m, l.length = m := ⟨_, rfl⟩
  have HM : Hid (l.length = m) := hm
  rw [hm] at p1 p3 hl9 ⊢
  clear hT hm
  have O1 := own_lit w 3 1 1 [.int .i64 to] rfl (by omega)
  have O2 := own_lit (w.alloc (.cells #[.int .i64 to] 3)) 22 1 1 [.slice (some ⟨w.heap.size, 0, none⟩) 1 1] rfl (by omega)
  rw [World.size_alloc] at O2
  have O3 := O1.alloc (.cells #[.slice (some ⟨w.heap.size, 0, none⟩) 1 1] 22)
  have B0 : Below w.heap.size w ((w.alloc (.cells #[.int .i64 to] 3)).alloc (.cells #[.slice (some ⟨w.heap.size, 0, none⟩) 1 1] 22)) := ((Below.refl w.heap.size w).alloc (Nat.le_refl _) _).alloc (by simp) _
  have HW0 : Hid (WaysOk w ((w.alloc (.cells #[.int .i64 to] 3)).alloc (.cells #[.slice (some ⟨w.heap.size, 0, none⟩) 1 1] 22)) l to [.slice (some ⟨w.heap.size, 0, none⟩) 1 1]) := fun n u hu => by
    rcases Nat.eq_zero_or_pos n with rfl | h0
    · simp only [List.getElem?_cons_zero, Option.some.injEq] at hu
      subst hu
      exact ⟨[to], O3, by simp, fun x => by rw [wayB]; simp⟩
    · rw [List.getElem?_eq_none (by simp; omega)] at hu
      cases hu
  obtain ⟨wf, hwf⟩ : ∃ wf, (w.alloc (.cells #[.int .i64 to] 3)).alloc (.cells #[.slice (some ⟨w.heap.size, 0, none⟩) 1 1] 22) = wf := ⟨_, rfl⟩
  go_enter Try.func40, Try.ntmps40
  go_wp2_with fail
  have O4 := owns_low O2 (show w.heap.size ≤ w.heap.size + 1 by omega)
  rw [hwf] at HW0 B0
  have O5 : wf.ownsRow w.heap.size 22 1 (.slice (some ⟨w.heap.size + 1, 0, none⟩) 1 1) 1 [.slice (some ⟨w.heap.size, 0, none⟩) 1 1] := by rw [← hwf]; exact O4
  clear hwf O1 O2 O3 O4
  go_loopw [7, 8] (fun ov nv wr => ∃ (n : Nat) (Vs : List Value), n ≤ many ∧ nv = .int .i64 n ∧ Hid (Vs.length = n + 1) ∧ Hid (WaysOk w wr l to Vs) ∧ Below w.heap.size w wr ∧ wr.ownsRow w.heap.size 22 1 ov (n + 1) Vs) (fun _ nv _ => many - (intOf nv).toNat)
  case atStart => exact ⟨0, [.slice (some ⟨w.heap.size, 0, none⟩) 1 1], Nat.zero_le _, rfl, (show _ = _ from rfl), HW0, B0, O5⟩
  case round =>
    obtain ⟨n, Vs, hn, rfl, HVn, HW, hbw, hrow⟩ := hrel
    obtain ⟨wo, rfl⟩ : ∃ wo, wo = wr := ⟨_, rfl⟩
    by_cases hlt : n < many
    · have jn : (n : Int) < (many : Int) := by omega
      obtain ⟨g, cp, hu7, hcp, hcp2⟩ : ∃ g c, u7 = .slice (some ⟨g, 0, none⟩) (n + 1) c ∧ n + 1 ≤ c ∧ c ≤ 9223372036854775807 := by
        rcases hrow.2 with ⟨_, h⟩ | ⟨g, cap, cur, rfl, _, _, h2, h3, _⟩
        · omega
        · exact ⟨g, cap, rfl, h2, by unfold maxLen at h3; omega⟩
      obtain ⟨nn, hnn⟩ : ∃ nn, n + 1 = nn := ⟨_, rfl⟩
      have HNN : Hid (n + 1 = nn) := hnn
      have hnlt : n < nn := by omega
      have hnnb : nn ≤ 1000000001 := by omega
      have jn2 : (n : Int) < (nn : Int) := by omega
      rw [hnn] at hu7 hcp hrow
      subst hu7
      obtain ⟨un, hun⟩ : ∃ u, Vs[n]? = some u := ⟨_, List.getElem?_eq_getElem (by have := HVn.out; omega)⟩
      obtain ⟨N, hN1, hN2, hN3⟩ := HW.out n un hun
      have HN3 := Lib.hid hN3
      have TN : IsInts wo un N := IsRec.own intV_len (by omega) hN1 (by have := HM.out; omega)
      have CN := fun (x : Int) W (hW : Below wo.heap.size wo W) => rhas_any un N x W (TN.below hW)
      have Hun : Hid (∀ V, Below wo.heap.size wo V → V.cell? ⟨g, n, none⟩ = some un) := fun V hV => by
        have c := (owns_below hrow hV).cellAt n (by omega)
        rw [c]; exact hun
      clear hN1 hN3 TN hnn
      go_wp2_with fail
      go_loopw [9, 10] (fun xv zv wq => ∃ (z : Nat) (X : List Int), z ≤ m ∧ zv = .int .i64 z ∧ X.length ≤ z ∧ Hid (∀ x, x ∈ X ↔ nextP l to n z x) ∧ Below wo.heap.size wo wq ∧ wq.ownsRow wo.heap.size 3 1 xv X.length (recV intV X)) (fun _ zv _ => m - (intOf zv).toNat)
      case atStart => exact ⟨0, [], Nat.zero_le _, rfl, by simp, (fun x => ⟨fun h => (by cases h), fun ⟨j, _, h, _⟩ => absurd h (by omega)⟩), Below.refl _ _, World.ownsRow_nil _ _ _ _⟩
      case round =>
        obtain ⟨z, X, hz, rfl, hX, HX, hbq, xrow⟩ := hrel
        obtain ⟨wq, rfl⟩ : ∃ wq, wq = wr := ⟨_, rfl⟩
        by_cases hlz : z < m
        · have hzl : z < l.length := by have := HM.out; omega
          have jz : (z : Int) < (m : Int) := by omega
          obtain ⟨bs, os, rfl, uu, _, C1⟩ := HL.out z hzl
          obtain ⟨⟨fr, t, E⟩, hy⟩ : ∃ y, l[z] = y := ⟨_, rfl⟩
          have HNo : Hid (wayB l to n t = false → ∀ x, nextP l to n (z + 1) x ↔ nextP l to n z x) := fun h x => nextP_no l to n z x hzl (by rw [hy]; exact h)
          have HYe : Hid (wayB l to n t = true → ∀ x, nextP l to n (z + 1) x ↔ x = fr ∨ nextP l to n z x) := fun h x => by have e := nextP_yes l to n z x hzl (by rw [hy]; exact h); rw [hy] at e; exact e
          rw [hy] at C1
          simp only at C1
          have HC1 := Lib.hid C1
          clear hy C1
          have TX : IsInts wq u9 X := IsRec.own intV_len (by omega) xrow (by omega)
          have CX := fun W (hW : Below wq.heap.size wq W) => rhas_any u9 X fr W (TX.below hW)
          have CO := fun W (hW : Below wo.heap.size wo W) => CN t W hW
          have HOn : Hid (decide (t ∈ N) = wayB l to n t) := by
            show _ = _
            cases hw : wayB l to n t with
            | true => exact decide_eq_true ((HN3.out t).2 hw)
            | false => exact decide_eq_false (fun h => by rw [(HN3.out t).1 h] at hw; cases hw)
          rw [HOn.out] at CO
          obtain ⟨on, hon⟩ : ∃ b, wayB l to n t = b := ⟨_, rfl⟩
          rw [hon] at CO HNo HYe
          clear hon HOn
          obtain ⟨x0, x1, _⟩ := HC1.out _ (bel_trans hbw hbq)
          have xu := Hun.out _ hbq
          have S0 : (fun V => Below wq.heap.size wq V ∧ V.cell? ⟨g, n, none⟩ = some un ∧ V.cell? ⟨bs, os + z * 3 + 1, none⟩ = some (.int .i64 t)) wq.drew := ⟨(Below.refl _ _).drew, xu, x1⟩
          have keepS : ∀ V V' : World, (fun V => Below wq.heap.size wq V ∧ V.cell? ⟨g, n, none⟩ = some un ∧ V.cell? ⟨bs, os + z * 3 + 1, none⟩ = some (.int .i64 t)) V → Below V.heap.size V V' → (fun V => Below wq.heap.size wq V ∧ V.cell? ⟨g, n, none⟩ = some un ∧ V.cell? ⟨bs, os + z * 3 + 1, none⟩ = some (.int .i64 t)) V' := fun V V' ⟨a, b, c⟩ d => ⟨bel_trans a d, cell_bel d b, cell_bel d c⟩
          go_wp2_with fail
          go_region_held3 (fun V => Below wq.heap.size wq V ∧ V.cell? ⟨g, n, none⟩ = some un ∧ V.cell? ⟨bs, os + z * 3 + 1, none⟩ = some (.int .i64 t)) (first | exact S0 | exact keepS _ _ (by assumption) (by assumption)) (first | (go_at_call 29; refine (CO _ (bel_trans hbq (And.left (by assumption)))).mono ?_; rintro e' w' ⟨rfl, b8⟩))
          rename_i hHeld8
          have s8 := hHeld8.1
          clear S0 keepS hHeld8 x0 x1 xu
          obtain ⟨y0, y1, _⟩ := HC1.out _ (bel_trans hbw (bel_trans hbq s8))
          go_wp2_with fail
          refine (CX _ s8).mono ?_
          rintro e w2 ⟨rfl, b2⟩
          have s9 := bel_trans s8 b2
          have B9 := bel_trans hbq s9
          have xrow9 := owns_below xrow s9
          obtain ⟨q0, q1, _⟩ := HC1.out _ (bel_trans hbw B9)
          cases on with
          | false =>
            have HX2 : Hid (∀ x, x ∈ X ↔ nextP l to n (z + 1) x) := fun x => (HX.out x).trans (HNo.out rfl x).symm
            obtain ⟨inb, hinb⟩ : ∃ b, decide (fr ∈ X) = b := ⟨_, rfl⟩
            simp only [hinb]
            clear hinb
            go_wp2_with fail
            refine ⟨⟨z + 1, X, by omega, by first | go_num | simp, by omega, HX2, B9, xrow9⟩, by simp [intOf]; omega⟩
          | true =>
            by_cases hin : fr ∈ X
            · have HX2 : Hid (∀ x, x ∈ X ↔ nextP l to n (z + 1) x) := fun x => by
                rw [HYe.out rfl x, ← HX.out x]
                exact ⟨.inr, fun h => h.elim (fun e => by rw [e]; exact hin) id⟩
              simp only [decide_eq_true hin]
              clear hin
              go_wp2_with fail
              refine ⟨⟨z + 1, X, by omega, by first | go_num | simp, by omega, HX2, B9, xrow9⟩, by simp [intOf]; omega⟩
            · have HX2 : Hid (∀ x, x ∈ X ++ [fr] ↔ nextP l to n (z + 1) x) := fun x => by
                rw [HYe.out rfl x, ← HX.out x, List.mem_append, List.mem_singleton]
                exact Or.comm
              simp only [decide_eq_false hin]
              clear hin
              have sz := B9.size
              go_wp2_with (at_builtin; refine wpList_append_own _ rfl _ _ 22 rfl wo.heap.size 3 i0 (.int .i64 0) 1 8 Try.underlying22 hi hz0 hz1 hz2 rfl (by decide) _ _ _ rfl (xrow9.alloc _) ⟨w2.heap.size, 0, none⟩ 1 1 [.int .i64 fr] rfl rfl ?d1 ?d2 ?d3 ?d4 ?d5 ?_)
              try
                case d1 => intro j u hj; match j, hj with
                  | 0, hj => simp at hj; subst hj; first | (simp [Addr.add]; done) | exact cell_new7 (by simp) rfl
              try
                case d2 => intro u hu; simp at hu; subst hu; rfl
              try
                case d2 => exact rfl
              try
                case d3 => unfold maxLen; omega
              try
                case d4 => omega
              try
                case d5 => first | omega | (simp; done) | (simp; omega)
              intro v3 w3 own3 g3 _
              have B3 : Below wo.heap.size wo w3 := (B9.alloc sz _).grown g3 (by simp; omega) (fun j hj => (xrow9.lt j hj).1)
              go_wp2_with fail
              refine ⟨⟨z + 1, X ++ [fr], by omega, by first | go_num | simp, by simp; omega, HX2, B3, by rw [List.length_append, recV_append]; exact own3⟩, by simp [intOf]; omega⟩
        · obtain rfl : z = m := by omega
          have jz : ¬ (z : Int) < (z : Int) := by omega
          have HX3 : Hid (∀ x, x ∈ X ↔ wayB l to (n + 1) x = true) := fun x => by rw [HX.out x, ← HM.out]; exact nextP_all l to n x
          obtain ⟨ax, cx, hu9⟩ : ∃ a c, u9 = .slice a X.length c := by
            rcases xrow.2 with ⟨rfl, h⟩ | ⟨g, cap, cur, rfl, _⟩
            · exact ⟨_, _, by rw [h]⟩
            · exact ⟨_, _, rfl⟩
          subst hu9
          have BQ := bel_trans hbw hbq
          have sz := BQ.size
          have orow := owns_below hrow hbq
          have xlow := owns_low xrow hbw.size
          have HW2 := HW.out.below hbq
          go_wp2_with (at_builtin; refine wpList_append_own _ rfl _ _ 67 rfl w.heap.size 22 j0 (.slice none 0 0) 1 24 Try.underlying67 ji jz0 jz1 jz2 rfl (by decide) _ _ _ rfl (orow.alloc _) ⟨wq.heap.size, 0, none⟩ 1 1 [.slice ax X.length cx] rfl rfl ?k1 ?k2 ?k3 ?k4 ?k5 ?_)
          try
            case k1 => intro j u hj; match j, hj with
              | 0, hj => simp at hj; subst hj; first | (simp [Addr.add]; done) | exact cell_new7 (by simp) rfl
          try
            case k2 =>
              intro u hu
              simp at hu
              subst hu
              rfl
          try
            case k2 => exact rfl
          try
            case k3 => unfold maxLen; omega
          try
            case k4 => omega
          try
            case k5 => first | omega | (simp; done) | (simp; omega)
          intro v3 w3 own3 g3 _
          have B3 : Below w.heap.size w w3 := (BQ.alloc sz _).grown g3 (by simp; omega) (fun j hj => (orow.lt j hj).1)
          have bA := (Below.refl wq.heap.size wq).alloc (Nat.le_refl _) (.cells #[.slice ax X.length cx] 22)
          have HW3 := (HW2.below bA).grown (orow.alloc (.cells #[.slice ax X.length cx] 22)) (by decide) g3
          have X3 := apart11_kept (xlow.alloc (.cells #[.slice ax X.length cx] 22)) g3 (apart_types orow xlow (by decide))
          have HW4 : Hid (WaysOk w w3 l to (Vs ++ [.slice ax X.length cx])) := HW3.push (.slice ax X.length cx) X X3 (by have := HM.out; omega) (fun x => by rw [HVn.out]; exact HX3.out x)
          go_wp2_with fail
          refine ⟨⟨n + 1, Vs ++ [.slice ax X.length cx], by omega, by first | go_num | simp, by show _ = _; rw [List.length_append, HVn.out]; rfl, HW4, B3, by rw [HNN.out]; exact own3⟩, by simp [intOf]; omega⟩
    · obtain rfl : n = many := by omega
      have jn : ¬ (n : Int) < (n : Int) := by omega
      go_wp2_with fail
      go_ret
      exact ⟨_, Vs, rfl, hbw, HVn.out, hrow, HW.out⟩
end Go.Proofs.Ytpfpkpaodlmlaaa
