/-
  The walk of EventRows.
-/
import Derived.Test.YtchneiefjjcccaaZShown6
import Derived.Test.YtchneiefjjcccaaZEvent3
import Derived.Test.YtchneiefjjcccaaZR6Same
import Derived.Test.YtchneiefjjcccaaZR6Rows
import Derived.Test.YtchneiefjjcccaaZRSame2
import Derived.Deep.RegionHeld3
import Derived.BigQuiet
import Derived.Deep.QuietTactic
namespace Go.Proofs.Ytchneiefjjcccaa
set_option maxRecDepth 100000
open Go.RowKit
set_option linter.unusedVariables false
attribute [local go_sem] ba_size ba_append ba_get ba_extract
set_option maxHeartbeats 4000000 in
theorem rows6_walk (C : P6C) (w : World) (vh : Value) (h : List Ev) (Th : IsEvs w vh h) (Gh : ∀ x ∈ h, goodE x) (vl : Value) (l : List (List UInt8)) (Tl : IsTxt w vl l) (Bl : ∀ s ∈ l, s.length ≤ 140737488351232) (vo : Value) (o : List Ev) (To : IsEvs w vo o) (Go : ∀ x ∈ o, goodE x) :
    Calls Try.prog 4 #[vh, vl, vo] w fun e w' => e = .returned (.bool true) ∧ Below w.heap.size w w' := by
  have HSh : Hid (∀ W, Below w.heap.size w W → Calls Try.prog 10 #[] W fun e w' => e = .returned (.bool true) ∧ Below W.heap.size W w') := fun W _ => shown6_any C W
  have HL : Hid (∀ W, Below w.heap.size w W → Calls Try.prog 17 #[vh] W fun e w' => TxRes W (leavesE h) e w') := fun W h' => C.leaves h vh W (Th.below h') Gh
  have RL : Hid (∀ W, Below w.heap.size w W → Calls Try.prog 18 #[vh] W fun e w' => TxRes W (leavesE h) e w') := fun W h' => rleaves_any h vh W (Th.below h')
  have HK : Hid (∀ W, Below w.heap.size w W → Calls Try.prog 19 #[vl] W fun e w' => EvRes 23 W (backE l) e w') := fun W h' => C.back l vl W (Tl.below h') Bl
  have RK : Hid (∀ W, Below w.heap.size w W → Calls Try.prog 20 #[vl] W fun e w' => EvRes 23 W (backE l) e w') := fun W h' => rback_any l vl W (Tl.below h') (fun s hs => by have := Bl s hs; omega)
  have S1 : Hid (∀ W, Below w.heap.size w W → Calls Try.prog 23 #[vh, vo] W fun e w' => e = .returned (.bool (decide (h = o))) ∧ Below W.heap.size W w') := fun W h' => C.same vh vo h o W (Th.below h') (To.below h')
  have S2 : Hid (∀ W, Below w.heap.size w W → Calls Try.prog 22 #[vh, vo] W fun e w' => e = .returned (.bool (decide (h = o))) ∧ Below W.heap.size W w') := fun W h' => rsame6_any vh vo h o W (Th.below h') (To.below h')
  have S3 : Hid (∀ W, Below w.heap.size w W → Calls Try.prog 23 #[vh, vh] W fun e w' => e = .returned (.bool (decide (h = h))) ∧ Below W.heap.size W w') := fun W h' => C.same vh vh h h W (Th.below h') (Th.below h')
  rw [decide_eq_true rfl] at S3
  obtain ⟨q, hq⟩ : ∃ q, decide (h = o) = q := ⟨_, rfl⟩
  rw [hq] at S1 S2
  clear hq
  have l1 := leaves_bd h
  have l2 := back_bd l
  obtain ⟨⟨L, c⟩, hL⟩ : ∃ y, leavesE h = y := ⟨_, rfl⟩
  obtain ⟨⟨K, d⟩, hK⟩ : ∃ y, backE l = y := ⟨_, rfl⟩
  rw [hL] at HL RL l1
  rw [hK] at HK RK l2
  simp only at l1 l2
  clear hL hK
  obtain ⟨ah, ch, rfl, _⟩ := Th.some_at
  obtain ⟨al, cl, rfl, _⟩ := Tl.some_at
  obtain ⟨ao, co, rfl, _⟩ := To.some_at
  have eq : (q == q) = true := beq_self_eq_true q
  have ST : Hid (∀ v1 v2 W, IsTxt W v1 L → IsTxt W v2 L → Calls Try.prog 21 #[v1, v2] W fun e w' => e = .returned (.bool true) ∧ Below W.heap.size W w') := fun v1 v2 W t1 t2 => by
    have := same_txt v1 v2 L L W t1 t2
    rw [decide_eq_true rfl] at this
    exact this
  have SE : Hid (∀ v1 v2 W, IsEvs W v1 K → IsEvs W v2 K → Calls Try.prog 22 #[v1, v2] W fun e w' => e = .returned (.bool true) ∧ Below W.heap.size W w') := fun v1 v2 W t1 t2 => by
    have := rsame6_any v1 v2 K K W t1 t2
    rw [decide_eq_true rfl] at this
    exact this
  go_enter Try.func4, Try.ntmps4
  go_wp2_with fail
  refine (HSh.out _ (Below.refl w.heap.size w)).mono ?_
  rintro e w1 ⟨rfl, b1⟩
  have B1 := bel_trans (Below.refl w.heap.size w) b1
  go_wp2_with fail
  refine (HL.out _ B1).mono ?_
  rintro e w2 hres2
  obtain ⟨ua, rfl, b2, oa⟩ := hres2
  have B2 := bel_trans B1 b2
  have Ta : IsTxt w2 ua L := IsTxt.own oa (by show L.length ≤ _; omega) (fun s hs => by have := l1.2 s hs; omega)
  obtain ⟨aa, ca, rfl, _⟩ := Ta.some_at
  go_wp2_with fail
  refine (RL.out _ B2).mono ?_
  rintro e w3 hres3
  obtain ⟨ub, rfl, b3, ob⟩ := hres3
  have B3 := bel_trans B2 b3
  have Tb : IsTxt w3 ub L := IsTxt.own ob (by show L.length ≤ _; omega) (fun s hs => by have := l1.2 s hs; omega)
  obtain ⟨ab, cb, rfl, _⟩ := Tb.some_at
  replace Ta := Ta.below b3
  go_wp2_with fail
  refine (HK.out _ B3).mono ?_
  rintro e w4 hres4
  obtain ⟨ux, rfl, b4, ox⟩ := hres4
  have B4 := bel_trans B3 b4
  have Tx : IsEvs w4 ux K := IsRec.own evV_len (by omega) ox (by show K.length ≤ _; omega)
  obtain ⟨ax, cx, rfl, _⟩ := Tx.some_at
  replace Ta := Ta.below b4
  replace Tb := Tb.below b4
  go_wp2_with fail
  refine (RK.out _ B4).mono ?_
  rintro e w5 hres5
  obtain ⟨uy, rfl, b5, oy⟩ := hres5
  have B5 := bel_trans B4 b5
  have Ty : IsEvs w5 uy K := IsRec.own evV_len (by omega) oy (by show K.length ≤ _; omega)
  obtain ⟨ay, cy, rfl, _⟩ := Ty.some_at
  replace Ta := Ta.below b5
  replace Tb := Tb.below b5
  replace Tx := Tx.below b5
  go_wp2_with fail
  refine (ST.out _ _ w5 Ta Tb).mono ?_
  rintro e w6 ⟨rfl, b6⟩
  have B6 := bel_trans B5 b6
  replace Tx := Tx.below b6
  replace Ty := Ty.below b6
  go_wp2_with fail
  refine (SE.out _ _ w6 Tx Ty).mono ?_
  rintro e w7 ⟨rfl, b7⟩
  have B7 := bel_trans B6 b7
  go_wp2_with fail
  refine (S1.out _ B7).mono ?_
  rintro e w8 ⟨rfl, b8⟩
  have B8 := bel_trans B7 b8
  go_wp2_with fail
  refine (S2.out _ B8).mono ?_
  rintro e w9 ⟨rfl, b9⟩
  have B9 := bel_trans B8 b9
  go_wp2_with fail
  refine (S3.out _ B9).mono ?_
  rintro e w10 ⟨rfl, b10⟩
  have B10 := bel_trans B9 b10
  go_wp2_with fail
  go_ret
  exact ⟨rfl, B10⟩
end Go.Proofs.Ytchneiefjjcccaa
