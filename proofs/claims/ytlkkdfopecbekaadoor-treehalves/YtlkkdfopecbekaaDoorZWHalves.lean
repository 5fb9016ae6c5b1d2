/-
  The walk of TreeHalves.
-/
import Derived.Test.YtlkkdfopecbekaaDoorZShown3
import Derived.Test.YtlkkdfopecbekaaDoorZP3Check
namespace Go.Proofs.YtlkkdfopecbekaaDoor
set_option maxRecDepth 100000
open Go.RowKit
set_option linter.unusedVariables false
attribute [local go_sem] ba_size
theorem root_two (sm : List UInt8 → List UInt8) (a b : List UInt8) : rootL sm [a, b] = sm (rootI 2 (sm (nodeI (sm (leafI a)) (sm (leafI b))))) := by
  unfold rootL crownL
  rw [if_neg (by simp), topL_more sm [a, b] (by simp), show hf [a, b].length = 1 from rfl]
  show sm (rootI 2 (sm (nodeI (sm (topL sm [a])) (sm (topL sm [b]))))) = _
  rw [topL_one, topL_one]
theorem climb_two (sm : List UInt8 → List UInt8) (a y : List UInt8) (hy : y.length = 32) : climbL sm 2 0 a [y] = ([leafI a, nodeI (sm (leafI a)) y, rootI 2 (sm (nodeI (sm (leafI a)) y))], 0) := by
  have h1 : inL sm 2 0 a [y] = some [leafI a, nodeI (sm (leafI a)) y] := by
    rw [inL_left sm 2 0 a [y] (by omega) (by simp) (by decide), show hf 2 = 1 from rfl]
    show Option.map _ (inL sm 1 0 a []) = _
    rw [inL_one sm 1 0 a [] (by omega)]
    rfl
  unfold climbL
  rw [if_neg (by omega), if_neg (by rintro ⟨x, hx, hn⟩; rw [List.mem_singleton] at hx; rw [hx] at hn; exact hn hy)]
  show (match inL sm 2 0 a [y] with | none => _ | some l => _) = _
  rw [h1]
  rfl
theorem txt_two (w : World) (s t : List UInt8) (hs : s.length ≤ 1125899906842624) (ht : t.length ≤ 1125899906842624) : IsTxt (w.alloc (.cells #[.string ⟨s.toArray⟩, .string ⟨t.toArray⟩] 9)) (.slice (some ⟨w.heap.size, 0, none⟩) 2 2) [s, t] := by
  refine ⟨_, _, _, rfl, rfl, by omega, by omega, by omega, fun u hu => by simp at hu; rcases hu with rfl | rfl <;> assumption, .inr ⟨w.heap.size, 0, rfl, by simp, fun i hi => ?_⟩⟩
  match i, hi with
  | 0, _ => rw [cell_of_block (World.alloc_heap_new w _)]; rfl
  | 1, _ => rw [cell_of_block (World.alloc_heap_new w _)]; rfl
theorem txt_one' (w : World) (s : List UInt8) (hs : s.length ≤ 1125899906842624) : IsTxt (w.alloc (.cells #[.string ⟨s.toArray⟩] 9)) (.slice (some ⟨w.heap.size, 0, none⟩) 1 1) [s] := by
  refine ⟨_, _, _, rfl, rfl, by omega, by omega, by omega, fun t ht => by rw [List.mem_singleton] at ht; rw [ht]; omega, .inr ⟨w.heap.size, 0, rfl, by simp, fun i hi => ?_⟩⟩
  match i, hi with
  | 0, _ => rw [cell_of_block (World.alloc_heap_new w _)]; rfl
set_option maxHeartbeats 2000000 in
theorem halves_walk (w : World) (a : List UInt8) (ha : a.length ≤ 140737488351232) (b : List UInt8) (hb : b.length ≤ 140737488351232) (hG : G w) :
    Calls Tryd.prog 11 #[.string ⟨a.toArray⟩, .string ⟨b.toArray⟩] w fun e w' => e = .returned (.bool true) ∧ Below w.heap.size w w' := by
  have hg3 := hG.size
  have hSh := shown3_any w hG
  have al : ∀ (W : World) o, Below w.heap.size w W → Below w.heap.size w (W.alloc o) := fun W o h => h.alloc h.size o
  have HR : Hid (∀ W, Below w.heap.size w W → Calls Tryd.prog 14 #[.slice (some ⟨W.heap.size, 0, none⟩) 2 2] (W.alloc (.cells #[.string ⟨a.toArray⟩, .string ⟨b.toArray⟩] 9)) fun e w' => e = .returned (.tuple #[.string ⟨(rootL sumL [a, b]).toArray⟩, .int .i64 0]) ∧ Below (W.alloc (.cells #[.string ⟨a.toArray⟩, .string ⟨b.toArray⟩] 9)).heap.size (W.alloc (.cells #[.string ⟨a.toArray⟩, .string ⟨b.toArray⟩] 9)) w') := fun W h => proot_any [a, b] _ _ (hG.below (al W _ h) hg3) (txt_two W a b (by omega) (by omega)) (by simp)
  rw [root_two] at HR
  have HLa : Hid (∀ W, Below w.heap.size w W → Calls Tryd.prog 19 #[.string ⟨a.toArray⟩] W fun e w' => e = .returned (.string ⟨(sumL (leafI a)).toArray⟩) ∧ Below W.heap.size W w') := fun W h => pleaf_any a (by omega) W (hG.below h hg3)
  have HLb : Hid (∀ W, Below w.heap.size w W → Calls Tryd.prog 19 #[.string ⟨b.toArray⟩] W fun e w' => e = .returned (.string ⟨(sumL (leafI b)).toArray⟩) ∧ Below W.heap.size W w') := fun W h => pleaf_any b (by omega) W (hG.below h hg3)
  have lx := sumL_len32 (leafI a)
  have ly := sumL_len32 (leafI b)
  have HSA : Hid (∀ W, Below w.heap.size w W → Calls Tryd.prog 32 #[.string ⟨(leafI a).toArray⟩] W fun e w' => e = .returned (.string ⟨(sumL (leafI a)).toArray⟩) ∧ Below W.heap.size W w') := fun W h => psumL_any (leafI a) (by unfold leafI; simp; omega) W (hG.below h hg3)
  have hA : (leafI a).length ≤ 140737488351233 := by unfold leafI; simp; omega
  obtain ⟨x, hx⟩ : ∃ x, sumL (leafI a) = x := ⟨_, rfl⟩
  obtain ⟨y, hy⟩ : ∃ y, sumL (leafI b) = y := ⟨_, rfl⟩
  have hcl := climb_two sumL a y (by rw [← hy]; exact ly)
  rw [hx] at hcl HSA HLa HR lx
  rw [hy] at HLb HR ly
  have HCl : Hid (∀ W, Below w.heap.size w W → Calls Tryd.prog 23 #[.int .i64 2, .int .i64 0, .string ⟨a.toArray⟩, .slice (some ⟨W.heap.size, 0, none⟩) 1 1] (W.alloc (.cells #[.string ⟨y.toArray⟩] 9)) fun e w' => ClRes (W.alloc (.cells #[.string ⟨y.toArray⟩] 9)) ([leafI a, nodeI x y, rootI 2 (sumL (nodeI x y))], 0) e w') := fun W h => by
    have := pClimb_any 2 0 a (by omega) [y] _ _ (hG.below (al W _ h) hg3) (txt_one' W y (by omega))
    rw [hcl] at this
    exact this
  have HN : Hid (∀ W, Below w.heap.size w W → Calls Tryd.prog 21 #[.string ⟨x.toArray⟩, .string ⟨y.toArray⟩] W fun e w' => e = .returned (.string ⟨(sumL (nodeI x y)).toArray⟩) ∧ Below W.heap.size W w') := fun W h => pnode_any x y (by omega) (by omega) W (hG.below h hg3)
  have HSB : Hid (∀ W, Below w.heap.size w W → Calls Tryd.prog 32 #[.string ⟨(nodeI x y).toArray⟩] W fun e w' => e = .returned (.string ⟨(sumL (nodeI x y)).toArray⟩) ∧ Below W.heap.size W w') := fun W h => psumL_any (nodeI x y) (by unfold nodeI; simp; omega) W (hG.below h hg3)
  have lz := sumL_len32 (nodeI x y)
  have lB : (nodeI x y).length ≤ 65 := by unfold nodeI; simp; omega
  have HSC : Hid (∀ W, Below w.heap.size w W → Calls Tryd.prog 32 #[.string ⟨(rootI 2 (sumL (nodeI x y))).toArray⟩] W fun e w' => e = .returned (.string ⟨(sumL (rootI 2 (sumL (nodeI x y)))).toArray⟩) ∧ Below W.heap.size W w') := fun W h => psumL_any _ (by have := rootI_len 2 (sumL (nodeI x y)) (by omega); omega) W (hG.below h hg3)
  have lC := rootI_len 2 (sumL (nodeI x y)) (by omega)
  obtain ⟨z, hz⟩ : ∃ z, sumL (nodeI x y) = z := ⟨_, rfl⟩
  rw [hz] at HR HCl HN HSB HSC lC
  obtain ⟨A, hAA⟩ : ∃ A, leafI a = A := ⟨_, rfl⟩
  obtain ⟨B, hBB⟩ : ∃ B, nodeI x y = B := ⟨_, rfl⟩
  obtain ⟨C, hCC⟩ : ∃ C, rootI 2 z = C := ⟨_, rfl⟩
  rw [hCC] at HR HCl HSC lC
  rw [hBB] at HCl HSB lB
  rw [hAA] at HCl HSA hA
  obtain ⟨u, hu⟩ : ∃ u, sumL C = u := ⟨_, rfl⟩
  rw [hu] at HR HSC
  clear hu hCC hBB hAA hz hcl hx hy lz
  go_enter Tryd.func11, Tryd.ntmps11
  go_wp2_with fail
  refine hSh.mono ?_
  rintro e w1 ⟨rfl, B1⟩
  go_wp2_with fail
  refine (HR.out w1 B1).mono ?_
  rintro e w2 ⟨rfl, b2⟩
  have B2 : Below w.heap.size w w2 := bel_trans (al w1 _ B1) b2
  go_wp2_with fail
  refine (HLb.out w2 B2).mono ?_
  rintro e w3 ⟨rfl, b3⟩
  have B3 := bel_trans B2 b3
  go_wp2_with fail
  refine (HCl.out w3 B3).mono ?_
  rintro e w4 hres
  obtain ⟨r, rfl, b4, own⟩ := hres
  have B4 : Below w.heap.size w w4 := bel_trans (al w3 _ B3) b4
  have TI : IsTxt w4 r [A, B, C] := IsTxt.own own (by show 3 ≤ _; omega) (fun t ht => by simp at ht; rcases ht with rfl | rfl | rfl <;> omega)
  obtain ⟨g, go, gc, rfl, hglt, gc1, gc2, gn, GC⟩ := TI.at (by simp)
  have c0 : w4.cell? ⟨g, go, none⟩ = some (.string ⟨A.toArray⟩) := GC.out 0 (by simp)
  have c1 : w4.cell? ⟨g, go + 1, none⟩ = some (.string ⟨B.toArray⟩) := GC.out 1 (by simp)
  have c2 : w4.cell? ⟨g, go + 2, none⟩ = some (.string ⟨C.toArray⟩) := GC.out 2 (by simp)
  clear own TI GC
  go_wp2_with fail
  refine (HSC.out w4 B4).mono ?_
  rintro e w5 ⟨rfl, b5⟩
  have B5 := bel_trans B4 b5
  have d1 := (b5.cell (p := ⟨g, go + 1, none⟩) hglt).trans c1
  have d0 := (b5.cell (p := ⟨g, go, none⟩) hglt).trans c0
  have hg5 : g < w5.heap.size := by have := b5.size; omega
  go_wp2_with fail
  refine (HSB.out w5 B5).mono ?_
  rintro e w6 ⟨rfl, b6⟩
  have B6 := bel_trans B5 b6
  have e0 := (b6.cell (p := ⟨g, go, none⟩) hg5).trans d0
  have hg6 : g < w6.heap.size := by have := b6.size; omega
  go_wp2_with fail
  refine (HLa.out w6 B6).mono ?_
  rintro e w7 ⟨rfl, b7⟩
  have B7 := bel_trans B6 b7
  have f0 := (b7.cell (p := ⟨g, go, none⟩) hg6).trans e0
  have hg7 : g < w7.heap.size := by have := b7.size; omega
  go_wp2_with fail
  refine (HLb.out w7 B7).mono ?_
  rintro e w8 ⟨rfl, b8⟩
  have B8 := bel_trans B7 b8
  have g0 := (b8.cell (p := ⟨g, go, none⟩) hg7).trans f0
  have hg8 : g < w8.heap.size := by have := b8.size; omega
  go_wp2_with fail
  refine (HN.out w8 B8).mono ?_
  rintro e w9 ⟨rfl, b9⟩
  have B9 := bel_trans B8 b9
  have h0 := (b9.cell (p := ⟨g, go, none⟩) hg8).trans g0
  go_wp2_with fail
  refine (HSA.out w9 B9).mono ?_
  rintro e w10 ⟨rfl, b10⟩
  have B10 := bel_trans B9 b10
  go_wp2_with fail
  refine (HLa.out w10 B10).mono ?_
  rintro e w11 ⟨rfl, b11⟩
  go_wp2_with fail
  go_ret
  exact ⟨rfl, bel_trans B10 b11⟩
end Go.Proofs.YtlkkdfopecbekaaDoor
