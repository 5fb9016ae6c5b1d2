/-
  What tree.allInputs and its closure answer, by blake.Sum.
-/
import Derived.Test.YtlkkdfopecbekaaDoorZP3Root
import Derived.Test.YtlkkdfopecbekaaDoorZP3Base
import Derived.Test.YtlkkdfopecbekaaDoorZTreeZ
namespace Go.Proofs.YtlkkdfopecbekaaDoor
set_option maxRecDepth 100000
open Go.RowKit Go.Shelf
set_option linter.unusedVariables false
attribute [local go_sem] ba_size
/-- What lies as long as inputs are gathered: n0 the sum's box, behind it the row's, behind it crownBy's two. -/
def JA (w : World) (pre : List (List UInt8)) (W : World) : Prop :=
  (∃ pv, Boxed W (w.heap.size + 1) 22 pv ∧ W.ownsRow (w.heap.size + 4) 9 1 pv pre.length (strV pre)) ∧
  W.cell? ⟨w.heap.size, 0, none⟩ = some (.func (.func 32) #[] #[]) ∧
  W.cell? ⟨w.heap.size + 2, 0, none⟩ = some (.func (.func 71) #[] #[.pointer (some ⟨w.heap.size + 1, 0, none⟩), .pointer (some ⟨w.heap.size, 0, none⟩)]) ∧
  W.cell? ⟨w.heap.size + 3, 0, none⟩ = some (crownF (w.heap.size + 2) (w.heap.size + 3)) ∧ w.heap.size + 4 ≤ W.heap.size ∧ Below w.heap.size w W
theorem JA.drew {w W : World} {pre : List (List UInt8)} (h : JA w pre W) : JA w pre W.drew := by
  obtain ⟨⟨pv, h1, h2⟩, h3, h4, h5, h6, h7⟩ := h
  exact ⟨⟨pv, h1, h2⟩, h3, h4, h5, h6, h7.drew⟩
set_option maxHeartbeats 1000000 in
theorem all1_any (w : World) (hG : G w) (pre : List (List UInt8)) (x : List UInt8) (W : World) (hJ : JA w pre W) (hp : pre.length ≤ 100000) (hx : x.length ≤ 1125899906842625) :
    Calls Tryd.prog 71 #[.string ⟨x.toArray⟩, .pointer (some ⟨w.heap.size + 1, 0, none⟩), .pointer (some ⟨w.heap.size, 0, none⟩)] W fun e W' => e = .returned (.string ⟨(sumL x).toArray⟩) ∧ JA w (pre ++ [x]) W' := by
  obtain ⟨i0', hi', hz0, hz1, hz2⟩ := info_parts str_info
  obtain ⟨⟨pv, hpv, hrow⟩, c0, c2, c3, hsz, hB⟩ := hJ
  have hg3 := hG.size
  have cP := hpv.cell
  have hS := fun w1 h => psumL_any x (by omega) w1 h
  obtain ⟨y, hy⟩ : ∃ y, sumL x = y := ⟨_, rfl⟩
  rw [hy] at hS ⊢
  clear hy
  go_enter Tryd.func71, Tryd.ntmps71
  go_wp2_with (at_builtin; refine wpList_append_own _ rfl _ _ 22 rfl (w.heap.size + 4) 9 i0' (.string ByteArray.empty) 1 16 Tryd.underlying22 hi' hz0 hz1 hz2 rfl (by decide) _ _ _ rfl (hrow.alloc _) ⟨W.heap.size, 0, none⟩ 1 1 [.string ⟨x.toArray⟩] rfl rfl ?d1 ?d2 ?d3 ?d4 ?d5 ?_)
  case d1 =>
    intro j u hj
    match j, hj with
    | 0, hj => simp at hj; subst hj; simp [Addr.add]
  case d2 => intro u hu; simp at hu; subst hu; rfl
  case d3 => unfold maxLen; omega
  case d4 => omega
  case d5 => simp; omega
  intro v' W5 hown5 hgrow5' _
  have hgrow5 : (W.alloc (.cells #[.string ⟨x.toArray⟩] 9)).grownBy W5 pv.ownBlock := hgrow5'
  clear hgrow5'
  obtain ⟨g', cap', rfl⟩ := ownsRow_succ hown5
  obtain ⟨hv1, hv2, hr2, hk2, hb2⟩ := hpv.appended (by decide) (owns_low (B' := w.heap.size + 1) hrow (by omega)) (by omega) (Nat.le_refl _) (owns_low (B' := w.heap.size + 1) hown5 (by omega)) hgrow5
  have hr2' : (W5.setCell ⟨w.heap.size + 1, 0, none⟩ (.slice (some ⟨g', 0, none⟩) (pre.length + 1) cap')).ownsRow (w.heap.size + 4) 9 1 (.slice (some ⟨g', 0, none⟩) (pre.length + 1) cap') (pre.length + 1) (strV pre ++ [.string ⟨x.toArray⟩]) := hown5.kept (grownBy_setCell' _ _ _) (.inr (fun e => by have := (hown5.lt _ e).1; omega))
  have e1 := hv1.cell
  have e1f := hv1.frozen
  have hkc : ∀ k, k < w.heap.size + 4 → k ≠ w.heap.size + 1 → (W5.setCell ⟨w.heap.size + 1, 0, none⟩ (.slice (some ⟨g', 0, none⟩) (pre.length + 1) cap')).heap[k]? = W.heap[k]? := fun k hk hne => by
    rw [Below.heap_setCell _ _ _ k hne, hgrow5.block k (by simp; omega) (fun e => by have := (hrow.lt _ e.symm).1; omega), Below.heap_alloc W _ k (by omega)]
  have hcell : ∀ k, k < w.heap.size + 4 → k ≠ w.heap.size + 1 → (W5.setCell ⟨w.heap.size + 1, 0, none⟩ (.slice (some ⟨g', 0, none⟩) (pre.length + 1) cap')).cell? ⟨k, 0, none⟩ = W.cell? ⟨k, 0, none⟩ := fun k hk hne => World.cell?_of_block (hkc k hk hne)
  have d0 := (hcell w.heap.size (by omega) (by omega)).trans c0
  have d2 := (hcell (w.heap.size + 2) (by omega) (by omega)).trans c2
  have d3 := (hcell (w.heap.size + 3) (by omega) (by omega)).trans c3
  have hB6 : Below w.heap.size w (W5.setCell ⟨w.heap.size + 1, 0, none⟩ (.slice (some ⟨g', 0, none⟩) (pre.length + 1) cap')) := hB.trans (hb2.mono (by omega))
  have hs6 : w.heap.size + 4 ≤ (W5.setCell ⟨w.heap.size + 1, 0, none⟩ (.slice (some ⟨g', 0, none⟩) (pre.length + 1) cap')).heap.size := by have := hk2.size; omega
  obtain ⟨W6, hW6⟩ : ∃ W6, W5.setCell ⟨w.heap.size + 1, 0, none⟩ (.slice (some ⟨g', 0, none⟩) (pre.length + 1) cap') = W6 := ⟨_, rfl⟩
  rw [hW6] at hv2 hr2' d0 d2 d3 hB6 hs6
  have HW6 : Hid (W5.setCell ⟨w.heap.size + 1, 0, none⟩ (.slice (some ⟨g', 0, none⟩) (pre.length + 1) cap') = W6) := hW6
  clear hcell hkc hr2 hb2 hk2 hown5
  go_wp2_with fail
  refine (hS W6 (hG.below hB6 hg3)).mono ?_
  rintro e w7 ⟨rfl, hb7⟩
  go_wp2_with fail
  go_ret
  refine ⟨rfl, ⟨_, boxed_below hv2 hb7, ?_⟩, (hb7.cell (p := ⟨w.heap.size, 0, none⟩) (show w.heap.size < W6.heap.size by omega)).trans d0, (hb7.cell (p := ⟨w.heap.size + 2, 0, none⟩) (show w.heap.size + 2 < W6.heap.size by omega)).trans d2, (hb7.cell (p := ⟨w.heap.size + 3, 0, none⟩) (show w.heap.size + 3 < W6.heap.size by omega)).trans d3, by have := hb7.size; omega, hB6.trans (hb7.mono (by omega))⟩
  rw [strV_snoc, List.length_append]
  exact owns_below hr2' hb7
/-- What allInputs leaves: the row. -/
def AllRes (w : World) (L : List (List UInt8)) (e : Ending) (w' : World) : Prop := ∃ r, e = .returned r ∧ w'.ownsRow w.heap.size 9 1 r L.length (strV L) ∧ Below w.heap.size w w'
set_option maxHeartbeats 1000000 in
theorem pall_any (ss : List (List UInt8)) (v : Value) (w : World) (hG : G w) (hT : IsTxt w v ss) (h4 : ss.length ≤ 4096) :
    Calls Tryd.prog 63 #[.func (.func 32) #[] #[], v] w fun e w' => AllRes w (allI sumL ss) e w' := by
  obtain ⟨i0', hi', hz0, hz1, hz2⟩ := info_parts str_info
  have hg3 := hG.size
  have hcr := fun W (hJ : JA w [] W) => crown_all (JA w) w (w.heap.size + 2) (w.heap.size + 3) (w.heap.size + 1) w.heap.size (fun pre W h => ⟨h.2.2.1, h.2.2.2.1, h.2.2.2.2.2⟩) (fun pre W h => h.drew) (fun pre x W hJ hp hx => all1_any w hG pre x W hJ hp hx) ss.length ss v [] W rfl h4 (by simp; omega) hT hJ
  have lc := crownL_le32 sumL sumL_len32 ss
  have HA : Hid (allI sumL ss = insL sumL ss ++ [rootI ss.length (crownL sumL ss)]) := (rfl : _ = _)
  have hil := insL_len sumL ss.length ss rfl
  obtain ⟨a, cap, rfl, h1, h2, h3⟩ := hT.len
  simp only [List.nil_append] at hcr
  obtain ⟨P, hP⟩ : ∃ P, insL sumL ss = P := ⟨_, rfl⟩
  rw [hP] at hcr HA hil
  obtain ⟨c, hc⟩ : ∃ c, crownL sumL ss = c := ⟨_, rfl⟩
  rw [hc] at hcr HA lc
  have hR := fun w1 => prootIn_any ss.length (by omega) c lc w1
  obtain ⟨R, hRR⟩ : ∃ R, rootI ss.length c = R := ⟨_, rfl⟩
  rw [hRR] at hR HA
  clear hRR hc hP hT
  obtain ⟨n, hn⟩ : ∃ n, ss.length = n := ⟨_, rfl⟩
  simp only [hn] at *
  clear hn
  go_enter Tryd.func63, Tryd.ntmps63
  go_wp2_with fail
  refine (crownBy_any _ _ _).mono ?_
  rintro e w3 ⟨rfl, hs3, cS, cC, hb3⟩
  simp only [World.size_alloc] at hs3 cS cC hb3
  have hB3 : Below w.heap.size w w3 := (((Below.refl _ w).alloc (Nat.le_refl _) _).alloc (by simp) _).trans (hb3.mono (by omega))
  have bI3 : Boxed w3 (w.heap.size + 1) 22 (.slice none 0 0) := by
    have := Boxed.new (w.alloc (.cells #[.func (.func 32) #[] #[]] 37)) 22 (.slice none 0 0)
    rw [World.size_alloc] at this
    exact (hb3.block _ (by omega)).trans this
  have bT3 : w3.cell? ⟨w.heap.size, 0, none⟩ = some (.func (.func 32) #[] #[]) := (hb3.cell (p := ⟨w.heap.size, 0, none⟩) (show w.heap.size < _ by omega)).trans (cell_al _ (Boxed.new w 37 _).cell)
  have hJ3 : JA w [] w3 := ⟨⟨_, bI3, World.ownsRow_nil _ _ _ _⟩, bT3, cS, cC, by omega, hB3⟩
  have hcr3 : Calls Tryd.prog 54 #[.slice a n cap, .pointer (some ⟨w.heap.size + 1 + 1, 0, none⟩), .pointer (some ⟨w.heap.size + 1 + 1 + 1, 0, none⟩)] w3 fun e W' => e = .returned (.string ⟨c.toArray⟩) ∧ JA w P W' := hcr w3 hJ3
  clear hcr
  go_wp2_with fail
  refine hcr3.mono ?_
  rintro e W4 ⟨rfl, hJ4⟩
  obtain ⟨⟨pv, hpv, hrow⟩, c0, c2, c3, hsz, hB⟩ := hJ4
  have cP := hpv.cell
  go_wp2_with fail
  refine wp_region_any (by kernel_rfl) ?_
  change wpAny _ _ _ _ _ _ _ (World.drew _)
  refine any_of_C (C := fun V => V.cell? ⟨w.heap.size + 1, 0, none⟩ = some pv) 7 _ _ _ _ ?_
  refine takeC (i := 0) (v := pv) rfl (by kernel_rfl) (by kernel_rfl) (by kernel_rfl) (by kernel_rfl) (by kernel_rfl) (fun _ _ _ h => h) (Or.inl ⟨by rfl, fun V hV => by go_simp⟩) ?_
  refine takeC (i := 1) (v := .slice a n cap) rfl (by kernel_rfl) (by kernel_rfl) (by kernel_rfl) (by kernel_rfl) (by kernel_rfl) (fun _ _ _ h => h) (Or.inl ⟨by rfl, fun V hV => by go_simp⟩) ?_
  refine takeC (i := 2) (v := .int .i64 n) rfl (by kernel_rfl) (by kernel_rfl) (by kernel_rfl) (by kernel_rfl) (by kernel_rfl) (fun _ _ _ h => h) (Or.inl ⟨by rfl, fun V hV => by go_simp⟩) ?_
  refine takeC (i := 3) (v := .string ⟨c.toArray⟩) rfl (by kernel_rfl) (by kernel_rfl) (by kernel_rfl) (by kernel_rfl) (by kernel_rfl) (fun _ _ _ h => h) (Or.inl ⟨by rfl, fun V hV => by go_simp⟩) ?_
  refine consC (i := 4) (by kernel_rfl) (by kernel_rfl) cP rfl (fun K hK => ?_)
  go_wp2_with fail
  refine (hR _).mono ?_
  rintro e W5 ⟨rfl, hb5'⟩
  have hb5 : Below W4.heap.size W4 W5 := (Below.refl _ W4).drew.trans hb5'
  have hs5 := hb5.size
  have hpv5 := boxed_below hpv hb5
  have hrow5 := owns_below hrow hb5
  have hB5 : Below w.heap.size w W5 := hB.trans (hb5.mono (by omega))
  have cP5 := hpv5.cell
  go_wp2_with fail
  refine consC (i := 5) (by kernel_rfl) (by kernel_rfl) cP5 rfl (fun K hK => ?_)
  go_wp2_with fail
  refine consC (i := 6) (by kernel_rfl) (by kernel_rfl) (cell_al _ cP5) rfl (fun K hK => ?_)
  refine wpList_append_own _ rfl _ _ 22 rfl (w.heap.size + 4) 9 i0' (.string ByteArray.empty) 1 16 Tryd.underlying22 hi' hz0 hz1 hz2 rfl (by decide) _ _ _ rfl (hrow5.alloc _) ⟨W5.heap.size, 0, none⟩ 1 1 [.string ⟨R.toArray⟩] rfl rfl ?d1 ?d2 ?d3 ?d4 ?d5 ?_
  case d1 =>
    intro j u hj
    match j, hj with
    | 0, hj => simp at hj; subst hj; simp [Addr.add]
  case d2 => intro u hu; simp at hu; subst hu; rfl
  case d3 => unfold maxLen; omega
  case d4 => omega
  case d5 => simp; omega
  intro v' W6 hown6 hgrow6' _
  have hgrow6 : (W5.alloc (.cells #[.string ⟨R.toArray⟩] 9)).grownBy W6 pv.ownBlock := hgrow6'
  clear hgrow6'
  have e1 := ((hpv5.alloc (.cells #[.string ⟨R.toArray⟩] 9)).kept hgrow6 (hpv5.not_row (by decide) hrow5)).cell
  have hB6 : Below w.heap.size w W6 := (hB5.alloc (by omega) _).grown hgrow6 (by simp; omega) (fun j hj => by have := (hrow5.lt j hj).1; omega)
  go_wp2_with fail
  refine lastC (by kernel_rfl) (by kernel_rfl) e1 (of_decide_eq_true (by kernel_rfl)) ?_
  refine any_seqI [7] [_] _ _ _ rfl (by kernel_rfl) ?_
  go_wp2_with fail
  go_ret
  refine ⟨v', rfl, ?_, hB6⟩
  rw [HA.out, strV_snoc, List.length_append]
  exact owns_low hown6 (by omega)
end Go.Proofs.YtlkkdfopecbekaaDoor
