/-
  The walk of TreeRoots.
-/
import Derived.Test.YtlkkdfopecbekaaDoorZShown3
import Derived.Test.YtlkkdfopecbekaaDoorZP3Root
import Derived.Test.YtlkkdfopecbekaaDoorGG
namespace Go.Proofs.YtlkkdfopecbekaaDoor
set_option maxRecDepth 100000
open Go.RowKit
set_option linter.unusedVariables false
attribute [local go_sem] ba_size
set_option maxHeartbeats 4000000 in
theorem roots_walk (w : World) (vl : Value) (l : List (List UInt8)) (hTl : IsTxt w vl l) (hBl : ∀ s ∈ l, s.length ≤ 140737488351232) (i : Int) (a : List UInt8) (ha : a.length ≤ 140737488351232) (b : List UInt8) (hb : b.length ≤ 140737488351232) (hG : G w) :
    Calls Tryd.prog 3 #[.agg #[vl, .int .i64 i, .string ⟨a.toArray⟩, .string ⟨b.toArray⟩]] w fun e w' => e = .returned (.bool true) ∧ Below w.heap.size w w' := by
  have hg3 := hG.size
  have HSh : Hid (∀ W, Below w.heap.size w W → Calls Tryd.prog 12 #[] W fun e w' => e = .returned (.bool true) ∧ Below W.heap.size W w') := fun W h => shown3_any W (hG.below h hg3)
  have al : ∀ o, Below w.heap.size w (w.alloc o) := fun o => (Below.refl _ w).alloc (Nat.le_refl _) o
  have HFl : Hid (∀ W, Below w.heap.size w W → Calls Tryd.prog 13 #[vl] W fun e w' => e = .returned (.bool (fewL l)) ∧ Below W.heap.size W w') := fun W h => few_any l vl W (hTl.below h)
  have HLa : Hid (∀ W, Below w.heap.size w W → Calls Tryd.prog 19 #[.string ⟨a.toArray⟩] W fun e w' => e = .returned (.string ⟨(sumL (leafI a)).toArray⟩) ∧ Below W.heap.size W w') := fun W h => pleaf_any a (by omega) W (hG.below h hg3)
  have HLr : Hid (∀ W, Below w.heap.size w W → Calls Tryd.prog 20 #[.string ⟨a.toArray⟩] W fun e w' => e = .returned (.string ⟨(sumL (leafI a)).toArray⟩) ∧ Below W.heap.size W w') := fun W h => rleaf_any a (by omega) W
  have HNa : Hid (∀ W, Below w.heap.size w W → Calls Tryd.prog 21 #[.string ⟨a.toArray⟩, .string ⟨b.toArray⟩] W fun e w' => e = .returned (.string ⟨(sumL (nodeI a b)).toArray⟩) ∧ Below W.heap.size W w') := fun W h => pnode_any a b (by omega) (by omega) W (hG.below h hg3)
  have HNr : Hid (∀ W, Below w.heap.size w W → Calls Tryd.prog 22 #[.string ⟨a.toArray⟩, .string ⟨b.toArray⟩] W fun e w' => e = .returned (.string ⟨(sumL (nodeI a b)).toArray⟩) ∧ Below W.heap.size W w') := fun W h => rnode_any a b (by omega) (by omega) W
  obtain ⟨x, hx⟩ : ∃ x, sumL (leafI a) = x := ⟨_, rfl⟩
  obtain ⟨y, hy⟩ : ∃ y, sumL (nodeI a b) = y := ⟨_, rfl⟩
  rw [hx] at HLa HLr
  rw [hy] at HNa HNr
  clear hx hy
  cases hfl : fewL l with
  | false =>
    rw [hfl] at HFl
    obtain ⟨al', cl, rfl, _, _, _⟩ := hTl.len
    clear hfl hTl hBl
    go_enter Tryd.func3, Tryd.ntmps3
    go_wp2_with fail
    refine (HSh.out _ (al _)).mono ?_
    rintro e w1 ⟨rfl, b1⟩
    have B1 := bel_trans (al _) b1
    go_wp2_with fail
    refine (HFl.out w1 B1).mono ?_
    rintro e w2 ⟨rfl, b2⟩
    have B2 := bel_trans B1 b2
    go_wp2_with fail
    go_ret
    exact ⟨rfl, B2⟩
  | true =>
    rw [hfl] at HFl
    have ll := fewL_len hfl
    clear hfl
    have HR1 : Hid (∀ W, Below w.heap.size w W → Calls Tryd.prog 14 #[vl] W fun e w' => e = .returned (.tuple #[.string ⟨(rootL sumL l).toArray⟩, .int .i64 0]) ∧ Below W.heap.size W w') := fun W h => proot_any l vl W (hG.below h hg3) (hTl.below h) (by omega)
    have HR2 : Hid (∀ W, Below w.heap.size w W → Calls Tryd.prog 15 #[vl] W fun e w' => e = .returned (.tuple #[.string ⟨(rootL sumL l).toArray⟩, .int .i64 0]) ∧ Below W.heap.size W w') := fun W h => rroot_any l vl W (hTl.below h) (by omega)
    have HSm : Hid (∀ W v1 v2 L, IsTxt W v1 L → IsTxt W v2 L → Calls Tryd.prog 18 #[v1, v2] W fun e w' => e = .returned (.bool true) ∧ Below W.heap.size W w') := fun W v1 v2 L h1 h2 => by
      have := same_txt v1 v2 L L W h1 h2
      rw [decide_eq_true rfl] at this
      exact this
    obtain ⟨R, hR⟩ : ∃ R, rootL sumL l = R := ⟨_, rfl⟩
    rw [hR] at HR1 HR2
    clear hR
    by_cases hi : i < 0 ∨ (l.length : Int) ≤ i
    · have HP1 : Hid (∀ W, Below w.heap.size w W → Calls Tryd.prog 16 #[vl, .int .i64 i] W fun e w' => e = .returned (.tuple #[.slice none 0 0, .int .i64 1]) ∧ Below W.heap.size W w') := fun W h => ppath_bad l vl i W (hTl.below h) (by omega) hi
      have HP2 : Hid (∀ W, Below w.heap.size w W → Calls Tryd.prog 17 #[vl, .int .i64 i] W fun e w' => e = .returned (.tuple #[.slice none 0 0, .int .i64 1]) ∧ Below W.heap.size W w') := fun W h => rpath_bad l vl i W (hTl.below h) (by omega) hi
      obtain ⟨al', cl, rfl, _, _, _⟩ := hTl.len
      clear hTl hBl
      go_enter Tryd.func3, Tryd.ntmps3
      go_wp2_with fail
      refine (HSh.out _ (al _)).mono ?_
      rintro e w1 ⟨rfl, b1⟩
      have B1 := bel_trans (al _) b1
      go_wp2_with fail
      refine (HFl.out w1 B1).mono ?_
      rintro e w2 ⟨rfl, b2⟩
      have B2 := bel_trans B1 b2
      go_wp2_with fail
      refine (HR1.out w2 B2).mono ?_
      rintro e w3 ⟨rfl, b3⟩
      have B3 := bel_trans B2 b3
      go_wp2_with fail
      refine (HR2.out w3 B3).mono ?_
      rintro e w4 ⟨rfl, b4⟩
      have B4 := bel_trans B3 b4
      go_wp2_with fail
      refine (HP1.out w4 B4).mono ?_
      rintro e w5 ⟨rfl, b5⟩
      have B5 := bel_trans B4 b5
      go_wp2_with fail
      refine (HP2.out w5 B5).mono ?_
      rintro e w6 ⟨rfl, b6⟩
      have B6 := bel_trans B5 b6
      go_wp2_with fail
      refine (HSm.out w6 _ _ [] (IsTxt.nil _) (IsTxt.nil _)).mono ?_
      rintro e w7 ⟨rfl, b7⟩
      have B7 := bel_trans B6 b7
      go_wp2_with fail
      refine (HLa.out w7 B7).mono ?_
      rintro e w8 ⟨rfl, b8⟩
      have B8 := bel_trans B7 b8
      go_wp2_with fail
      refine (HLr.out w8 B8).mono ?_
      rintro e w9 ⟨rfl, b9⟩
      have B9 := bel_trans B8 b9
      go_wp2_with fail
      refine (HNa.out w9 B9).mono ?_
      rintro e w10 ⟨rfl, b10⟩
      have B10 := bel_trans B9 b10
      go_wp2_with fail
      refine (HNr.out w10 B10).mono ?_
      rintro e w11 ⟨rfl, b11⟩
      go_wp2_with fail
      go_ret
      exact ⟨rfl, bel_trans B10 b11⟩
    · obtain ⟨I, rfl⟩ : ∃ I : Nat, i = I := ⟨i.toNat, by omega⟩
      have hI : I < l.length := by omega
      have HP1 : Hid (∀ W, Below w.heap.size w W → Calls Tryd.prog 16 #[vl, .int .i64 I] W fun e w' => ∃ p, e = .returned (.tuple #[p, .int .i64 0]) ∧ w'.ownsRow W.heap.size 9 1 p (pathL sumL l I).length (strV (pathL sumL l I)) ∧ Below W.heap.size W w') := fun W h => ppath_any l vl I W (hG.below h hg3) (hTl.below h) (by omega) hI
      have HP2 : Hid (∀ W, Below w.heap.size w W → Calls Tryd.prog 17 #[vl, .int .i64 I] W fun e w' => ∃ p, e = .returned (.tuple #[p, .int .i64 0]) ∧ w'.ownsRow W.heap.size 9 1 p (pathL sumL l I).length (strV (pathL sumL l I)) ∧ Below W.heap.size W w') := fun W h => rpath_any l.length l vl W I rfl (by omega) hI (hTl.below h)
      have hp32 := pathL_32 sumL sumL_len32 l.length l I rfl hI
      have hpl := pathL_le sumL l I (m := 200) ll
      obtain ⟨P, hP⟩ : ∃ P, pathL sumL l I = P := ⟨_, rfl⟩
      rw [hP] at HP1 HP2 hp32 hpl
      have HP32 : Hid (∀ x ∈ P, x.length = 32) := hp32
      obtain ⟨al', cl, rfl, _, _, _⟩ := hTl.len
      clear hTl hBl hP hp32
      go_enter Tryd.func3, Tryd.ntmps3
      go_wp2_with fail
      refine (HSh.out _ (al _)).mono ?_
      rintro e w1 ⟨rfl, b1⟩
      have B1 := bel_trans (al _) b1
      go_wp2_with fail
      refine (HFl.out w1 B1).mono ?_
      rintro e w2 ⟨rfl, b2⟩
      have B2 := bel_trans B1 b2
      go_wp2_with fail
      refine (HR1.out w2 B2).mono ?_
      rintro e w3 ⟨rfl, b3⟩
      have B3 := bel_trans B2 b3
      go_wp2_with fail
      refine (HR2.out w3 B3).mono ?_
      rintro e w4 ⟨rfl, b4⟩
      have B4 := bel_trans B3 b4
      go_wp2_with fail
      refine (HP1.out w4 B4).mono ?_
      rintro e w5 ⟨r5, rfl, own5, b5⟩
      have B5 := bel_trans B4 b5
      go_wp2_with fail
      refine (HP2.out w5 B5).mono ?_
      rintro e w6 ⟨r6, rfl, own6, b6⟩
      have B6 := bel_trans B5 b6
      have T5 : IsTxt w6 r5 P := (IsTxt.own own5 (by omega) (fun t ht => by have := HP32.out t ht; omega)).below b6
      have T6 : IsTxt w6 r6 P := IsTxt.own own6 (by omega) (fun t ht => by have := HP32.out t ht; omega)
      go_wp2_with fail
      refine (HSm.out w6 _ _ P T5 T6).mono ?_
      rintro e w7 ⟨rfl, b7⟩
      have B7 := bel_trans B6 b7
      go_wp2_with fail
      refine (HLa.out w7 B7).mono ?_
      rintro e w8 ⟨rfl, b8⟩
      have B8 := bel_trans B7 b8
      go_wp2_with fail
      refine (HLr.out w8 B8).mono ?_
      rintro e w9 ⟨rfl, b9⟩
      have B9 := bel_trans B8 b9
      go_wp2_with fail
      refine (HNa.out w9 B9).mono ?_
      rintro e w10 ⟨rfl, b10⟩
      have B10 := bel_trans B9 b10
      go_wp2_with fail
      refine (HNr.out w10 B10).mono ?_
      rintro e w11 ⟨rfl, b11⟩
      go_wp2_with fail
      go_ret
      exact ⟨rfl, bel_trans B10 b11⟩
end Go.Proofs.YtlkkdfopecbekaaDoor
