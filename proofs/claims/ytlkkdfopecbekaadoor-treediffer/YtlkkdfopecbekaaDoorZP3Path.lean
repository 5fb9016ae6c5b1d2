/-
  What tree.Path answers.
-/
import Derived.Test.YtlkkdfopecbekaaDoorZP3Sides
import Derived.Test.YtlkkdfopecbekaaDoorZP3Root
import Derived.Test.YtlkkdfopecbekaaDoorGA
import Derived.Test.YtlkkdfopecbekaaDoorZP3Base
namespace Go.Proofs.YtlkkdfopecbekaaDoor
set_option maxRecDepth 100000
open Go.RowKit Go.Shelf
set_option linter.unusedVariables false
attribute [local go_sem] Oper.semAt_some ba_size
set_option maxHeartbeats 400000 in
theorem ppath_big (ss : List (List UInt8)) (v : Value) (i : Int) (w : World) (hT : IsTxt w v ss) (hb : 4096 < ss.length) :
    Calls Tryd.prog 16 #[v, .int .i64 i] w fun e w' => e = .returned (.tuple #[.slice none 0 0, .int .i64 4]) ∧ Below w.heap.size w w' := by
  obtain ⟨a, cap, rfl, h1, h2, h3⟩ := hT.len
  have i0 : (4096 : Int) < (ss.length : Int) := by omega
  clear hT
  go_enter Tryd.func16, Tryd.ntmps16
  go_wp2_with fail
  go_ret2
  exact ⟨rfl, (Below.refl _ _).alloc (Nat.le_refl _) _⟩
set_option maxHeartbeats 400000 in
theorem ppath_bad (ss : List (List UInt8)) (v : Value) (i : Int) (w : World) (hT : IsTxt w v ss) (hb : ss.length ≤ 4096) (hi : i < 0 ∨ (ss.length : Int) ≤ i) :
    Calls Tryd.prog 16 #[v, .int .i64 i] w fun e w' => e = .returned (.tuple #[.slice none 0 0, .int .i64 1]) ∧ Below w.heap.size w w' := by
  obtain ⟨a, cap, rfl, h1, h2, h3⟩ := hT.len
  have i0 : ¬ (4096 : Int) < (ss.length : Int) := by omega
  have hP := fun w1 => pisPlace_any ss.length i w1
  rw [show decide (0 ≤ i ∧ i < (ss.length : Int)) = false from decide_eq_false (by omega)] at hP
  clear hT
  go_enter Tryd.func16, Tryd.ntmps16
  go_wp2_with fail
  refine (hP _).mono ?_
  rintro e w1 ⟨rfl, rfl⟩
  go_wp2_with fail
  go_ret2
  exact ⟨rfl, (Below.refl _ _).alloc (Nat.le_refl _) _⟩
set_option maxHeartbeats 2000000 in
theorem ppath_any (ss : List (List UInt8)) (v : Value) (i : Nat) (w : World) (hG : G w) (hT : IsTxt w v ss) (hn : ss.length ≤ 4096) (hi : i < ss.length) :
    Calls Tryd.prog 16 #[v, .int .i64 i] w fun e w' => ∃ p, e = .returned (.tuple #[p, .int .i64 0]) ∧ w'.ownsRow w.heap.size 9 1 p (pathL sumL ss i).length (strV (pathL sumL ss i)) ∧ Below w.heap.size w w' := by
  obtain ⟨i0', hi', hz0, hz1, hz2⟩ := info_parts str_info
  have hT0 := hT
  obtain ⟨b, off, cap, rfl, hblt, h1, h2, h3, HC⟩ := hT.at (by omega)
  have i0 : ¬ (4096 : Int) < (ss.length : Int) := by omega
  have hP := fun w1 => pisPlace_any ss.length i w1
  rw [show decide (0 ≤ (i : Int) ∧ (i : Int) < (ss.length : Int)) = true from decide_eq_true (by omega)] at hP
  have hst := fun W lN lI cN cI => sides_stops ss.length i hn (by omega) (w.heap.size + 1 + 2 + 1 + 1) (w.heap.size + 1 + 2 + 1 + 1 + 1) (3 - 1) W lN lI cN cI
  refine (callsIn_wide (n := 3)).1 ?_
  refine callsIn_of_wp_marks Tryd.func16 rfl trivial ?_ rfl
  simp only [Tryd.ntmps16, List.size_toArray, List.length_cons, List.length_nil, Nat.reduceAdd, Nat.reduceSub, Array.replicate_succ, Array.replicate_zero, List.push_toArray, List.append_toArray, List.nil_append, List.cons_append]
  gi_wp2_with (first
    | ((try refine ⟨trivial, ?_⟩); gi_at_call 37; refine (callsIn_wide.2 (hP _)).mono ?_; rintro e w1 ⟨rfl, rfl⟩)
    | ((try refine ⟨trivial, ?_⟩); gi_at_call 33; refine (callsIn_wide.2 (crownBy_any _ _ _)).mono ?_; rintro e w1 ⟨rfl, hs1, cS, cC, hb1⟩; simp only [World.size_alloc] at hs1 cS cC hb1; have c0 : w1.cell? ⟨w.heap.size, 0, none⟩ = some (.slice (some ⟨b, off, none⟩) ss.length cap) := (hb1.cell (p := ⟨w.heap.size, 0, none⟩) (by simp)).trans (Boxed.new w 22 _).cell; have c1 := fun o1 o2 => cell_al o2 (cell_al o1 c0))
    | ((try refine ⟨trivial, ?_⟩); gi_at_call 38; refine (callsIn_wide.2 (sides_any _ _ _)).mono ?_; rintro e w2 ⟨rfl, rfl⟩))
  obtain ⟨Wc, hWc⟩ : ∃ Wc, w1.alloc (.cells #[crownF (w.heap.size + 1) (w.heap.size + 1 + 1)] 60) = Wc := ⟨_, rfl⟩
  have hWc' : w1.alloc (.cells #[.func (.func 54) #[] #[.pointer (some ⟨w.heap.size + 1, 0, none⟩), .pointer (some ⟨w.heap.size + 1 + 1, 0, none⟩)]] 60) = Wc := hWc
  rw [hWc']
  have sWc : Wc.heap.size = w.heap.size + 1 + 2 + 1 := by rw [← hWc, World.size_alloc, hs1]
  have hWL : Wc.cell? ⟨w.heap.size, 0, none⟩ = some (.slice (some ⟨b, off, none⟩) ss.length cap) := by rw [← hWc]; exact cell_al _ c0
  have hWS : Wc.cell? ⟨w.heap.size + 1, 0, none⟩ = some (.func (.func 32) #[] #[]) := by rw [← hWc]; exact cell_al _ cS
  have hWC : Wc.cell? ⟨w.heap.size + 1 + 1, 0, none⟩ = some (crownF (w.heap.size + 1) (w.heap.size + 1 + 1)) := by rw [← hWc]; exact cell_al _ cC
  have hWV : Wc.cell? ⟨w.heap.size + 1 + 2, 0, none⟩ = some (crownF (w.heap.size + 1) (w.heap.size + 1 + 1)) := by
    have := (Boxed.new w1 60 (crownF (w.heap.size + 1) (w.heap.size + 1 + 1))).cell
    rw [← hWc]; rwa [hs1] at this
  have hBc : Below w.heap.size w Wc := by
    rw [← hWc]
    exact (((Below.refl _ w).alloc (Nat.le_refl _) _).trans (hb1.mono (by omega))).alloc (by omega) _
  have bP : Boxed (((Wc.alloc (.cells #[.slice none 0 0] 22)).alloc (.cells #[.int .i64 ss.length] 3)).alloc (.cells #[.int .i64 i] 3)) (w.heap.size + 1 + 2 + 1) 22 (.slice none 0 0) := by
    have := ((Boxed.new Wc 22 (.slice none 0 0)).alloc (.cells #[.int .i64 ss.length] 3)).alloc (.cells #[.int .i64 i] 3)
    rwa [sWc] at this
  have bN : Boxed (((Wc.alloc (.cells #[.slice none 0 0] 22)).alloc (.cells #[.int .i64 ss.length] 3)).alloc (.cells #[.int .i64 i] 3)) (w.heap.size + 1 + 2 + 1 + 1) 3 (.int .i64 ss.length) := by
    have := (Boxed.new (Wc.alloc (.cells #[.slice none 0 0] 22)) 3 (.int .i64 ss.length)).alloc (.cells #[.int .i64 i] 3)
    rwa [World.size_alloc, sWc] at this
  have bI : Boxed (((Wc.alloc (.cells #[.slice none 0 0] 22)).alloc (.cells #[.int .i64 ss.length] 3)).alloc (.cells #[.int .i64 i] 3)) (w.heap.size + 1 + 2 + 1 + 1 + 1) 3 (.int .i64 i) := by
    have := Boxed.new ((Wc.alloc (.cells #[.slice none 0 0] 22)).alloc (.cells #[.int .i64 ss.length] 3)) 3 (.int .i64 i)
    rwa [World.size_alloc, World.size_alloc, sWc] at this
  have hB0 : Below (w.heap.size + 1 + 2 + 1) Wc (((Wc.alloc (.cells #[.slice none 0 0] 22)).alloc (.cells #[.int .i64 ss.length] 3)).alloc (.cells #[.int .i64 i] 3)) := (((Below.refl _ Wc).alloc (by omega) _).alloc (by simp; omega) _).alloc (by simp; omega) _
  refine wpIn_rangeFunc_ownH rfl (by omega) (gf := 59) (lb := #[.pointer (some ⟨w.heap.size + 1 + 2 + 1 + 1, 0, none⟩), .pointer (some ⟨w.heap.size + 1 + 2 + 1 + 1 + 1, 0, none⟩)]) rfl trivial (enters_of Tryd.func59 (by kernel_rfl) rfl)
    (hst _ bN.lt bI.lt bN.cell bI.cell) (fun _ _ => trivial) (fun _ _ _ _ _ _ _ _ => trivial) (Below.refl _ _) (fun _ => rfl)
    (fun pre W => (∃ pv, Boxed W (w.heap.size + 1 + 2 + 1) 22 pv ∧ W.ownsRow (w.heap.size + 1 + 2 + 1) 9 1 pv pre.length (strV (pre.map (fun x => crownL sumL ((ss.drop x.a).take (x.b - x.a))))) ∧ True) ∧ Below (w.heap.size + 1 + 2 + 1) Wc W)
    (fun _ _ _ => False)
    (OwnFrom.and (Own.from (holdsRow_own (w.heap.size + 1 + 2 + 1) (w.heap.size + 1 + 2 + 1) 22 9 1 (fun pre : List (Side ss.length) => pre.length) (fun pre => strV (pre.map (fun x => crownL sumL ((ss.drop x.a).take (x.b - x.a))))) (fun _ _ => True)) _) (ownFrom_below (by omega) (by simp; omega)))
    (fun _ _ _ _ _ hs _ _ => hs)
    ⟨⟨_, bP, World.ownsRow_nil _ _ _ _, trivial⟩, hB0⟩
    (fun x a' W => ∃ Bx, w.heap.size + 1 + 2 + 1 < Bx ∧ W.heap[Bx]? = some (.cells #[.int .i64 x.a, .int .i64 x.b, .bool x.r] 68 (0, 0)) ∧ a' = { tmps := #[.slice (some ⟨b, off, none⟩) ss.length cap, .int .i64 i, .pointer (some ⟨w.heap.size, 0, none⟩), undef, .slice none 0 0, .int .i64 0, .pointer (some ⟨w.heap.size + 1 + 2, 0, none⟩), .pointer (some ⟨w.heap.size + 1 + 2 + 1, 0, none⟩), .pointer (some ⟨Bx, 0, none⟩), .slice (some ⟨b, off, none⟩) ss.length cap, .int .i64 ss.length, .bool false, .slice (some ⟨b, off, none⟩) ss.length cap, .int .i64 ss.length, .int .i64 i, .bool true, .bool false, crownF (w.heap.size + 1) (w.heap.size + 1 + 1), .slice (some ⟨b, off, none⟩) ss.length cap, .int .i64 ss.length, .int .i64 i, sidesF (w.heap.size + 1 + 2 + 1 + 1) (w.heap.size + 1 + 2 + 1 + 1 + 1), .agg #[.int .i64 x.a, .int .i64 x.b, .bool x.r], undef, undef, undef, undef, undef, undef, undef, undef, undef, undef, undef, undef], defers := [] })
    (fun x a' _ A B row hs hg hr => by
      obtain ⟨Bx, h1, h2, h4⟩ := hs
      exact ⟨Bx, h1, block_kept h2 hg (fun r e => (hr r e).2), h4⟩)
    ?assign ?body ?done ?stop
  case assign =>
    rintro l pre x W K ⟨⟨pv, hpv, hrow, _⟩, hB⟩ hK
    have hlt := hpv.lt
    gi_wp2
    refine hK _ _ ((KeepsOthers.alloc _ _).from _) trivial ⟨⟨pv, hpv.alloc _, hrow.alloc _, trivial⟩, hB.alloc (by omega) _⟩ ⟨W.heap.size, hlt, World.alloc_heap_new W _, rfl⟩
  case body =>
    rintro l pre x a' W hl hrec ⟨⟨pv, hpv, hrow, _⟩, hB⟩ ⟨Bx, hBx, hblk, rfl⟩ hlt
    have q0 := cell_of_block hblk 0
    have q1 := cell_of_block hblk 1
    simp only [List.getElem?_toArray, List.getElem?_cons_zero, List.getElem?_cons_succ] at q0 q1
    have hN := sidesS_le ss.length (ss.length - 0) 0 ss.length i (Nat.le_refl _) rfl
    have hsz := hpv.lt
    have hBw : Below w.heap.size w W := hBc.trans (hB.mono (by omega))
    have hGW : G W := hG.below hBw hG.size
    have hx1 := x.h1
    have hx2 := x.h2
    have cP := hpv.cell
    have cV := (hB.cell (p := ⟨w.heap.size + 1 + 2, 0, none⟩) (by show w.heap.size + 1 + 2 < _; omega)).trans hWV
    have cL := (hB.cell (p := ⟨w.heap.size, 0, none⟩) (by show w.heap.size < _; omega)).trans hWL
    have cS' := (hB.cell (p := ⟨w.heap.size + 1, 0, none⟩) (by show w.heap.size + 1 < _; omega)).trans hWS
    have cC' := (hB.cell (p := ⟨w.heap.size + 1 + 1, 0, none⟩) (by show w.heap.size + 1 + 1 < _; omega)).trans hWC
    have tx : IsTxt W.drew (.slice (some ⟨b, off + x.a, none⟩) (x.b - x.a) (cap - x.a)) ((ss.drop x.a).take (x.b - x.a)) := by
      have h := hT0.drop x.a (by omega) (by omega)
      rw [← List.length_drop] at h
      exact (h.take (x.b - x.a) (by rw [List.length_drop]; omega) (by rw [List.length_drop]; omega)).below hBw.drew
    have hcr := crown_pure (w.heap.size + 1) (w.heap.size + 1 + 1) _ _ W.drew tx (by rw [List.length_take, List.length_drop]; omega) (hGW.below ((Below.refl _ W).drew) hGW.size) (show _ < W.heap.size by omega) (show _ < W.heap.size by omega) cS' cC'
    obtain ⟨c, hc⟩ : ∃ c, crownL sumL ((ss.drop x.a).take (x.b - x.a)) = c := ⟨_, rfl⟩
    rw [hc] at hcr
    have HM : Hid ((pre ++ [x]).map (fun x => crownL sumL ((ss.drop x.a).take (x.b - x.a))) = pre.map (fun x => crownL sumL ((ss.drop x.a).take (x.b - x.a))) ++ [c]) := by show _ = _; rw [List.map_append, List.map_cons, List.map_nil, hc]
    obtain ⟨ps, hps⟩ : ∃ ps, pre.map (fun x => crownL sumL ((ss.drop x.a).take (x.b - x.a))) = ps := ⟨_, rfl⟩
    have hpl : ps.length = pre.length := by rw [← hps, List.length_map]
    rw [hps] at HM hrow
    clear hc hps tx
    have j1 : (x.a : Int) ≤ (x.b : Int) := by omega
    have j2 : (x.b : Int) ≤ (cap : Int) := by omega
    have j3 : (x.b : Int) ≤ (ss.length : Int) := by omega
    have j4 : ¬ cap = x.a := by omega
    obtain ⟨xa, hxa⟩ : ∃ xa, x.a = xa := ⟨_, rfl⟩
    obtain ⟨xb, hxb⟩ : ∃ xb, x.b = xb := ⟨_, rfl⟩
    rw [hxa] at q0 hcr j1 j4 hx1
    rw [hxb] at q1 hcr j1 j2 j3 hx1 hx2
    rw [hxa, hxb]
    gi_wp2
    refine regionIn_any (by kernel_rfl) (fun ⟨_, _, h⟩ => h) (by kernel_rfl) ?_
    refine any_of_C (C := fun V => V.cell? ⟨w.heap.size + 1 + 2 + 1, 0, none⟩ = some pv ∧ V.cell? ⟨w.heap.size + 1 + 2, 0, none⟩ = some (crownF (w.heap.size + 1) (w.heap.size + 1 + 1)) ∧ V.cell? ⟨w.heap.size, 0, none⟩ = some (.slice (some ⟨b, off, none⟩) ss.length cap) ∧ V.cell? ⟨Bx, 0, none⟩ = some (.int .i64 xa) ∧ V.cell? ⟨Bx, 1, none⟩ = some (.int .i64 xb)) 11 _ _ _ _ ?_
    refine takeC (i := 0) (v := pv) rfl (by kernel_rfl) (by kernel_rfl) (by kernel_rfl) (by kernel_rfl) (by kernel_rfl) (fun _ _ _ h => h) (Or.inl ⟨by rfl, fun V hV => by obtain ⟨r0, r1, r2, r3, r4⟩ := hV; go_simp⟩) ?_
    refine takeC (i := 1) (v := crownF (w.heap.size + 1) (w.heap.size + 1 + 1)) rfl (by kernel_rfl) (by kernel_rfl) (by kernel_rfl) (by kernel_rfl) (by kernel_rfl) (fun _ _ _ h => h) (Or.inl ⟨by rfl, fun V hV => by obtain ⟨r0, r1, r2, r3, r4⟩ := hV; go_simp⟩) ?_
    refine takeC (i := 2) (v := .slice (some ⟨b, off, none⟩) ss.length cap) rfl (by kernel_rfl) (by kernel_rfl) (by kernel_rfl) (by kernel_rfl) (by kernel_rfl) (fun _ _ _ h => h) (Or.inl ⟨by rfl, fun V hV => by obtain ⟨r0, r1, r2, r3, r4⟩ := hV; go_simp⟩) ?_
    refine takeC (i := 3) (v := .pointer (some ⟨Bx, 0, none⟩)) rfl (by kernel_rfl) (by kernel_rfl) (by kernel_rfl) (by kernel_rfl) (by kernel_rfl) (fun _ _ _ h => h) (Or.inl ⟨by rfl, fun V hV => by go_simp⟩) ?_
    refine takeC (i := 4) (v := .int .i64 xa) rfl (by kernel_rfl) (by kernel_rfl) (by kernel_rfl) (by kernel_rfl) (by kernel_rfl) (fun _ _ _ h => h) (Or.inl ⟨by rfl, fun V hV => by obtain ⟨r0, r1, r2, r3, r4⟩ := hV; go_simp⟩) ?_
    refine takeC (i := 5) (v := .pointer (some ⟨Bx, 1, none⟩)) rfl (by kernel_rfl) (by kernel_rfl) (by kernel_rfl) (by kernel_rfl) (by kernel_rfl) (fun _ _ _ h => h) (Or.inl ⟨by rfl, fun V hV => by go_simp⟩) ?_
    refine takeC (i := 6) (v := .int .i64 xb) rfl (by kernel_rfl) (by kernel_rfl) (by kernel_rfl) (by kernel_rfl) (by kernel_rfl) (fun _ _ _ h => h) (Or.inl ⟨by rfl, fun V hV => by obtain ⟨r0, r1, r2, r3, r4⟩ := hV; go_simp⟩) ?_
    refine takeC (i := 7) (v := .slice (some ⟨b, off + xa, none⟩) (xb - xa) (cap - xa)) rfl (by kernel_rfl) (by kernel_rfl) (by kernel_rfl) (by kernel_rfl) (by kernel_rfl) (fun _ _ _ h => h) (Or.inl ⟨by rfl, fun V hV => by go_simp⟩) ?_
    refine consC (i := 8) (by kernel_rfl) (by kernel_rfl) ⟨cP, cV, cL, q0, q1⟩ rfl (fun K hK => ?_)
    go_wp2_with fail
    refine hcr.mono ?_
    rintro e W3 ⟨rfl, hb3'⟩
    have hb3 : Below W.heap.size W W3 := (Below.refl _ W).drew.trans hb3'
    have hpv3 := boxed_below hpv hb3
    have hrow3 := owns_below hrow hb3
    have hs3 := hb3.size
    have hB3 : Below (w.heap.size + 1 + 2 + 1) Wc W3 := hB.trans (hb3.mono (by omega))
    have hlx : Bx < W.heap.size := (Array.getElem?_eq_some_iff.1 hblk).1
    have hblk3 := (hb3.block Bx hlx).trans hblk
    have cP3 := hpv3.cell
    have cV3 := (hb3.cell (p := ⟨w.heap.size + 1 + 2, 0, none⟩) (show w.heap.size + 1 + 2 < W.heap.size by omega)).trans cV
    have cL3 := (hb3.cell (p := ⟨w.heap.size, 0, none⟩) (show w.heap.size < W.heap.size by omega)).trans cL
    have q03 := (hb3.cell (p := ⟨Bx, 0, none⟩) hlx).trans q0
    have q13 := (hb3.cell (p := ⟨Bx, 1, none⟩) hlx).trans q1
    go_wp2_with fail
    refine consC (i := 9) (by kernel_rfl) (by kernel_rfl) ⟨cP3, cV3, cL3, q03, q13⟩ rfl (fun K hK => ?_)
    go_wp2_with fail
    refine consC (i := 10) (by kernel_rfl) (by kernel_rfl) ⟨cell_al _ cP3, cell_al _ cV3, cell_al _ cL3, cell_al _ q03, cell_al _ q13⟩ rfl (fun K hK => ?_)
    refine wpList_append_own _ rfl _ _ 22 rfl (w.heap.size + 1 + 2 + 1) 9 i0' (.string ByteArray.empty) 1 16 Tryd.underlying22 hi' hz0 hz1 hz2 rfl (by decide) _ _ _ rfl (hrow3.alloc _) ⟨W3.heap.size, 0, none⟩ 1 1 [.string ⟨c.toArray⟩] rfl rfl ?d1 ?d2 ?d3 ?d4 ?d5 ?_
    case d1 =>
      intro j u hj
      match j, hj with
      | 0, hj => simp at hj; subst hj; simp [Addr.add]
    case d2 => intro u hu; simp at hu; subst hu; rfl
    case d3 => unfold maxLen; omega
    case d4 => omega
    case d5 => simp; omega
    intro v' W5 hown5 hgrow5 _
    obtain ⟨g', cap', rfl⟩ := ownsRow_succ hown5
    obtain ⟨hv1, hv2, hr2, hk2, hb2⟩ := hpv3.appended (by decide) hrow3 (by omega) (Nat.le_refl _) hown5 hgrow5
    have hrl := (hrow3.alloc (.cells #[.string ⟨c.toArray⟩] 9)).lt
    have e1 := hv1.cell
    have e1f := hv1.frozen
    have hB5 : Below (w.heap.size + 1 + 2 + 1) Wc W5 := (hB3.alloc (by omega) _).grown hgrow5 (by simp; omega) (fun j hj => (hrow3.lt j hj).1)
    have e2 := (hB5.cell (p := ⟨w.heap.size + 1 + 2, 0, none⟩) (by show w.heap.size + 1 + 2 < _; omega)).trans hWV
    have e3 := (hB5.cell (p := ⟨w.heap.size, 0, none⟩) (by show w.heap.size < _; omega)).trans hWL
    have hblk5 : W5.heap[Bx]? = _ := (hgrow5.block Bx (by simp; omega) (block_not_row hblk3 (by decide) hrow3)).trans ((Below.heap_alloc W3 _ Bx (by omega)).trans hblk3)
    have e4 := cell_of_block hblk5 0
    have e5 := cell_of_block hblk5 1
    rw [hxa, hxb] at e4 e5
    go_wp2_with fail
    refine lastC (by kernel_rfl) (by kernel_rfl) ⟨e1, e2, e3, e4, e5⟩ (of_decide_eq_true (by kernel_rfl)) ?_
    refine any_seqI [11] [_] _ _ _ rfl (by kernel_rfl) ?_
    go_wp2_with fail
    refine ⟨((keeps_of_below hb3).trans hk2).from _, trivial, ⟨_, hv2, ?_, trivial⟩, hB3.trans hb2⟩
    rw [HM.out, strV_snoc, List.length_append]
    exact hr2
  case done =>
    rintro D ys W hD rfl ⟨⟨pv, hpv, hrow, _⟩, hB⟩ hK
    have hc := hpv.cell
    have hE := path_sides sumL ss (ss.length - 0) 0 ss.length i (Nat.le_refl _) rfl (by omega) hi
    rw [List.drop_zero, Nat.sub_zero, Nat.sub_zero, List.take_length] at hE
    have hEl : (sidesS ss.length 0 ss.length i (Nat.le_refl _)).length = (pathL sumL ss i).length := by rw [← hE, List.length_map]
    rw [hE, hEl] at hrow
    gi_wp2
    refine ⟨by simp, .inl ⟨_, _, rfl, run_takeDeferred hK, ?_⟩⟩
    exact ⟨_, results_tmp2 rfl _ _ _, pv, rfl, ownsRow_putObj (owns_low (B' := w.heap.size) hrow (by omega)) _ hK rfl, (hBc.trans (hB.mono (by omega))).trans (belowK_b (w := w) (Nat.le_refl _) W D _ _ (by simp at hD; omega) hK rfl rfl)⟩
  case stop =>
    rintro D c pre W _ _ h _
    exact h.elim
end Go.Proofs.YtlkkdfopecbekaaDoor
