/-
  The walk of EventJoins.
-/
import Derived.Test.YtchneiefjjcccaaZJoins6
import Derived.Test.YtchneiefjjcccaaZR6Rows
import Derived.Deep.RegionHeld3
import Derived.BigQuiet
import Derived.Deep.QuietTactic
namespace Go.Proofs.Ytchneiefjjcccaa
set_option maxRecDepth 100000
open Go.RowKit
set_option linter.unusedVariables false
attribute [local go_sem] ba_size ba_append ba_get ba_extract
set_option maxHeartbeats 4000000 in
theorem joins6_walk (C : P6C) (w : World) (va : Value) (a : List Ev) (Ta : IsEvs w va a) (Ga : ∀ x ∈ a, goodE x) (Na : a.length ≤ 1048576) (Qa : va = .slice none 0 0 ∨ ∃ ad n c, va = .slice (some ad) n c) (vb : Value) (b : List Ev) (Tb : IsEvs w vb b) (Gb : ∀ x ∈ b, goodE x) (Nb : b.length ≤ 1048576) (Qb : vb = .slice none 0 0 ∨ ∃ ad n c, vb = .slice (some ad) n c) :
    Calls Try.prog 9 #[va, vb] w fun e w' => e = .returned (.bool true) ∧ Below w.heap.size w w' := by
  have HSh : Hid (∀ W, Below w.heap.size w W → Calls Try.prog 10 #[] W fun e w' => e = .returned (.bool true) ∧ Below W.heap.size W w') := fun W _ => shown6_any C W
  have HA : Hid (∀ W, Below w.heap.size w W → Calls Try.prog 17 #[va] W fun e w' => TxRes W (leavesE a) e w') := fun W h' => C.leaves a va W (Ta.below h') Ga
  have HB : Hid (∀ W, Below w.heap.size w W → Calls Try.prog 17 #[vb] W fun e w' => TxRes W (leavesE b) e w') := fun W h' => C.leaves b vb W (Tb.below h') Gb
  obtain ⟨i0, hi, hz0, hz1, hz2⟩ := info_parts ev_info
  have HZ : Hid (∀ v W, IsEvs W v (a ++ b) → Calls Try.prog 17 #[v] W fun e w' => TxRes W (leavesE (a ++ b)) e w') := fun v W hv => C.leaves (a ++ b) v W hv (fun x hx => by rcases List.mem_append.1 hx with h | h; exact Ga x h; exact Gb x h)
  have lA := leaves_bd a
  have lB := leaves_bd b
  have lZ := leaves_bd (a ++ b)
  have HK : Hid (((leavesE a).2 ≠ 0 ∨ (leavesE a).2 = 0 ∧ (leavesE b).2 ≠ 0) ∧ (leavesE (a ++ b)).2 ≠ 0 ∨ (leavesE a).2 = 0 ∧ (leavesE b).2 = 0 ∧ (256 < a.length + b.length ∧ (leavesE (a ++ b)).2 = 4 ∨ a.length + b.length ≤ 256 ∧ (leavesE (a ++ b)).2 = 0 ∧ (leavesE (a ++ b)).1 = (leavesE a).1 ++ (leavesE b).1)) := by
    by_cases h1 : (leavesE a).2 = 0
    · by_cases h2 : (leavesE b).2 = 0
      · right
        refine ⟨h1, h2, ?_⟩
        obtain ⟨a1, a2⟩ := leaves_zero a h1
        obtain ⟨b1, b2⟩ := leaves_zero b h2
        by_cases h3 : 256 < a.length + b.length
        · left; exact ⟨h3, by rw [leavesE_big _ (by rw [List.length_append]; exact h3)]⟩
        · right
          rw [leavesE_ok _ (by rw [List.length_append]; exact h3) (allMay_append a b a2 b2), leavesE_ok a (by omega) a2, leavesE_ok b (by omega) b2]
          exact ⟨by omega, rfl, by simp⟩
      · left; exact ⟨Or.inr ⟨h1, h2⟩, joins_bad a b (Or.inr h2)⟩
    · left; exact ⟨Or.inl h1, joins_bad a b (Or.inl h1)⟩
  obtain ⟨⟨X, c⟩, hX⟩ : ∃ y, leavesE a = y := ⟨_, rfl⟩
  obtain ⟨⟨Y, d⟩, hY⟩ : ∃ y, leavesE b = y := ⟨_, rfl⟩
  obtain ⟨⟨Z, g⟩, hZ⟩ : ∃ y, leavesE (a ++ b) = y := ⟨_, rfl⟩
  rw [hX] at HA lA HK
  rw [hY] at HB lB HK
  rw [hZ] at HZ lZ HK
  simp only at lA lB lZ
  obtain ⟨lX, sX⟩ := lA
  obtain ⟨lY, sY⟩ := lB
  obtain ⟨lZ, sZ⟩ := lZ
  clear hX hY hZ
  have na := Ta.few
  have nb := Tb.few
  obtain ⟨aa, ca, rfl, ha1, ha2, _, HCa⟩ := Ta.some_at
  obtain ⟨ab, cb, rfl, hb1, hb2, _, HCb⟩ := Tb.some_at
  have HKK := HK.out
  simp only at HKK
  clear HK
  rcases HKK with ⟨h1 | ⟨h1, h2⟩, h3⟩ | ⟨h1, h2, ⟨h3, h4⟩ | ⟨h3, h4, h5⟩⟩
  · have j1 : ((c : Int) != 0) = true := by rw [bne_iff_ne]; omega
    have j3 : ((g : Int) != 0) = true := by rw [bne_iff_ne]; omega
    clear h1 h3
    cases aa with
    | none =>
      obtain rfl : a = [] := by
        rcases a with _ | ⟨x, r⟩
        · rfl
        · obtain ⟨_, _, h, _⟩ := HCa.out 0 (by simp)
          cases h
      obtain rfl : ca = 0 := by
        rcases Qa with h | ⟨_, _, _, h⟩
        · simpa using h
        · simp at h
      cases ab with
      | none =>
        obtain rfl : b = [] := by
          rcases b with _ | ⟨x, r⟩
          · rfl
          · obtain ⟨_, _, h, _⟩ := HCb.out 0 (by simp)
            cases h
        obtain rfl : cb = 0 := by
          rcases Qb with h | ⟨_, _, _, h⟩
          · simpa using h
          · simp at h
        go_enter Try.func9, Try.ntmps9
        go_wp2_with fail
        refine (HSh.out _ (Below.refl w.heap.size w)).mono ?_
        rintro e w1 ⟨rfl, b1⟩
        have B1 := bel_trans (Below.refl w.heap.size w) b1
        go_wp2_with fail
        refine (HA.out _ B1).mono ?_
        rintro e w2 hres2
        obtain ⟨ux, rfl, b2, ox⟩ := hres2
        have B2 := bel_trans B1 b2
        have Tx : IsTxt w2 ux X := IsTxt.own ox (by show X.length ≤ _; omega) (fun s hs => by have := sX s hs; omega)
        obtain ⟨ax, cx, rfl, hx1, hx2, _⟩ := Tx.some_at
        go_wp2_with fail
        refine (HB.out _ B2).mono ?_
        rintro e w3 hres3
        obtain ⟨uy, rfl, b3, oy⟩ := hres3
        have B3 := bel_trans B2 b3
        have Ty : IsTxt w3 uy Y := IsTxt.own oy (by show Y.length ≤ _; omega) (fun s hs => by have := sY s hs; omega)
        obtain ⟨ay, cy, rfl, hy1, hy2, _⟩ := Ty.some_at
        replace Tx := Tx.below b3
        have C0 : Below w3.heap.size w3 (w3.alloc (.cells #[] 23)) := ((Below.refl w3.heap.size w3).alloc (Nat.le_refl _) (.cells #[] 23))
        have O0 := evs_own_empty w3 23 4
        have TZ := IsRec.own (L := ([] : List Ev)) evV_len (by omega) O0 (by omega)
        go_wp2_with fail
        refine (HZ.out _ _ TZ).mono ?_
        rintro e w7 hres7
        obtain ⟨uz, rfl, b7, oz⟩ := hres7
        have B7 := bel_trans (bel_trans B3 C0) b7
        have b37 := bel_trans C0 b7
        have Tz : IsTxt w7 uz Z := IsTxt.own oz (by show Z.length ≤ _; omega) (fun s hs => by have := sZ s hs; omega)
        obtain ⟨az, cz, rfl, hz1', hz2', _⟩ := Tz.some_at
        replace Tx := Tx.below b37
        replace Ty := Ty.below b37
        go_wp2_with fail
        go_ret
        exact ⟨rfl, B7⟩
      | some bd =>

        go_enter Try.func9, Try.ntmps9
        go_wp2_with fail
        refine (HSh.out _ (Below.refl w.heap.size w)).mono ?_
        rintro e w1 ⟨rfl, b1⟩
        have B1 := bel_trans (Below.refl w.heap.size w) b1
        go_wp2_with fail
        refine (HA.out _ B1).mono ?_
        rintro e w2 hres2
        obtain ⟨ux, rfl, b2, ox⟩ := hres2
        have B2 := bel_trans B1 b2
        have Tx : IsTxt w2 ux X := IsTxt.own ox (by show X.length ≤ _; omega) (fun s hs => by have := sX s hs; omega)
        obtain ⟨ax, cx, rfl, hx1, hx2, _⟩ := Tx.some_at
        go_wp2_with fail
        refine (HB.out _ B2).mono ?_
        rintro e w3 hres3
        obtain ⟨uy, rfl, b3, oy⟩ := hres3
        have B3 := bel_trans B2 b3
        have Ty : IsTxt w3 uy Y := IsTxt.own oy (by show Y.length ≤ _; omega) (fun s hs => by have := sY s hs; omega)
        obtain ⟨ay, cy, rfl, hy1, hy2, _⟩ := Ty.some_at
        replace Tx := Tx.below b3
        have C0 : Below w3.heap.size w3 (w3.alloc (.cells #[] 23)) := ((Below.refl w3.heap.size w3).alloc (Nat.le_refl _) (.cells #[] 23))
        have O0 := evs_own_empty w3 23 4
        go_wp2_with (at_builtin; refine wpList_append_own _ rfl _ _ 36 rfl w3.heap.size 23 i0 (.agg #[.int .i64 0, .int .i64 0, .string ByteArray.empty, .string ByteArray.empty]) 4 48 Try.underlying36 hi hz0 hz1 hz2 rfl (by decide) _ _ _ rfl (O0) bd b.length cb (recV evV b) rfl ?q1 ?q2 ?q3 ?q4 ?q5 ?q6 ?_)
        case q1 => rw [recV_length evV_len]
        case q2 => exact rec_src2 evV_len (by omega) HCb.out (bel_trans B3 C0)
        case q3 => exact recV_one evV_one b
        case q4 => unfold maxLen; omega
        case q5 => omega
        case q6 => exact C0.size
        intro v6 W6 own6 gr6 _
        have C6 : Below w3.heap.size w3 W6 := C0.grown gr6 C0.size (fun j hj => (O0.lt j hj).1)
        clear gr6
        obtain ⟨g6, c6, rfl, hc6⟩ := own_slice own6
        have TZ := IsRec.own (L := b) evV_len (by omega) own6 (by omega)
        go_wp2_with fail
        refine (HZ.out _ _ TZ).mono ?_
        rintro e w7 hres7
        obtain ⟨uz, rfl, b7, oz⟩ := hres7
        have B7 := bel_trans (bel_trans B3 C6) b7
        have b37 := bel_trans C6 b7
        have Tz : IsTxt w7 uz Z := IsTxt.own oz (by show Z.length ≤ _; omega) (fun s hs => by have := sZ s hs; omega)
        obtain ⟨az, cz, rfl, hz1', hz2', _⟩ := Tz.some_at
        replace Tx := Tx.below b37
        replace Ty := Ty.below b37
        go_wp2_with fail
        go_ret
        exact ⟨rfl, B7⟩
    | some ad =>
      cases ab with
      | none =>
        obtain rfl : b = [] := by
          rcases b with _ | ⟨x, r⟩
          · rfl
          · obtain ⟨_, _, h, _⟩ := HCb.out 0 (by simp)
            cases h
        obtain rfl : cb = 0 := by
          rcases Qb with h | ⟨_, _, _, h⟩
          · simpa using h
          · simp at h
        rw [List.append_nil] at HZ
        go_enter Try.func9, Try.ntmps9
        go_wp2_with fail
        refine (HSh.out _ (Below.refl w.heap.size w)).mono ?_
        rintro e w1 ⟨rfl, b1⟩
        have B1 := bel_trans (Below.refl w.heap.size w) b1
        go_wp2_with fail
        refine (HA.out _ B1).mono ?_
        rintro e w2 hres2
        obtain ⟨ux, rfl, b2, ox⟩ := hres2
        have B2 := bel_trans B1 b2
        have Tx : IsTxt w2 ux X := IsTxt.own ox (by show X.length ≤ _; omega) (fun s hs => by have := sX s hs; omega)
        obtain ⟨ax, cx, rfl, hx1, hx2, _⟩ := Tx.some_at
        go_wp2_with fail
        refine (HB.out _ B2).mono ?_
        rintro e w3 hres3
        obtain ⟨uy, rfl, b3, oy⟩ := hres3
        have B3 := bel_trans B2 b3
        have Ty : IsTxt w3 uy Y := IsTxt.own oy (by show Y.length ≤ _; omega) (fun s hs => by have := sY s hs; omega)
        obtain ⟨ay, cy, rfl, hy1, hy2, _⟩ := Ty.some_at
        replace Tx := Tx.below b3
        have C0 : Below w3.heap.size w3 (w3.alloc (.cells #[] 23)) := ((Below.refl w3.heap.size w3).alloc (Nat.le_refl _) (.cells #[] 23))
        have O0 := evs_own_empty w3 23 4
        go_wp2_with (at_builtin; refine wpList_append_own _ rfl _ _ 36 rfl w3.heap.size 23 i0 (.agg #[.int .i64 0, .int .i64 0, .string ByteArray.empty, .string ByteArray.empty]) 4 48 Try.underlying36 hi hz0 hz1 hz2 rfl (by decide) _ _ _ rfl (O0) ad a.length ca (recV evV a) rfl ?p1 ?p2 ?p3 ?p4 ?p5 ?p6 ?_)
        case p1 => rw [recV_length evV_len]
        case p2 => exact rec_src2 evV_len (by omega) HCa.out (bel_trans B3 C0)
        case p3 => exact recV_one evV_one a
        case p4 => unfold maxLen; omega
        case p5 => omega
        case p6 => simp
        intro v5 W5 own5 gr5 _
        have C5 : Below w3.heap.size w3 W5 := C0.grown gr5 (by simp) (fun j hj => (O0.lt j hj).1)
        clear gr5
        obtain ⟨g5, c5, rfl, hc5⟩ : ∃ g c, v5 = .slice g a.length c ∧ a.length ≤ c := own_slice own5
        go_wp2_with (at_builtin; refine wpList_append_own_none rfl _ _ 36 rfl w3.heap.size 23 i0 4 Try.underlying36 hi _ _ _ rfl own5 rfl ?_)
        have TZ := IsRec.own (L := a) evV_len (by omega) own5 (by omega)
        go_wp2_with fail
        refine (HZ.out _ _ TZ).mono ?_
        rintro e w7 hres7
        obtain ⟨uz, rfl, b7, oz⟩ := hres7
        have B7 := bel_trans (bel_trans B3 C5) b7
        have b37 := bel_trans C5 b7
        have Tz : IsTxt w7 uz Z := IsTxt.own oz (by show Z.length ≤ _; omega) (fun s hs => by have := sZ s hs; omega)
        obtain ⟨az, cz, rfl, hz1', hz2', _⟩ := Tz.some_at
        replace Tx := Tx.below b37
        replace Ty := Ty.below b37
        go_wp2_with fail
        go_ret
        exact ⟨rfl, B7⟩
      | some bd =>
        go_enter Try.func9, Try.ntmps9
        go_wp2_with fail
        refine (HSh.out _ (Below.refl w.heap.size w)).mono ?_
        rintro e w1 ⟨rfl, b1⟩
        have B1 := bel_trans (Below.refl w.heap.size w) b1
        go_wp2_with fail
        refine (HA.out _ B1).mono ?_
        rintro e w2 hres2
        obtain ⟨ux, rfl, b2, ox⟩ := hres2
        have B2 := bel_trans B1 b2
        have Tx : IsTxt w2 ux X := IsTxt.own ox (by show X.length ≤ _; omega) (fun s hs => by have := sX s hs; omega)
        obtain ⟨ax, cx, rfl, hx1, hx2, _⟩ := Tx.some_at
        go_wp2_with fail
        refine (HB.out _ B2).mono ?_
        rintro e w3 hres3
        obtain ⟨uy, rfl, b3, oy⟩ := hres3
        have B3 := bel_trans B2 b3
        have Ty : IsTxt w3 uy Y := IsTxt.own oy (by show Y.length ≤ _; omega) (fun s hs => by have := sY s hs; omega)
        obtain ⟨ay, cy, rfl, hy1, hy2, _⟩ := Ty.some_at
        replace Tx := Tx.below b3
        have C0 : Below w3.heap.size w3 (w3.alloc (.cells #[] 23)) := ((Below.refl w3.heap.size w3).alloc (Nat.le_refl _) (.cells #[] 23))
        have O0 := evs_own_empty w3 23 4
        go_wp2_with (at_builtin; refine wpList_append_own _ rfl _ _ 36 rfl w3.heap.size 23 i0 (.agg #[.int .i64 0, .int .i64 0, .string ByteArray.empty, .string ByteArray.empty]) 4 48 Try.underlying36 hi hz0 hz1 hz2 rfl (by decide) _ _ _ rfl (O0) ad a.length ca (recV evV a) rfl ?p1 ?p2 ?p3 ?p4 ?p5 ?p6 ?_)
        case p1 => rw [recV_length evV_len]
        case p2 => exact rec_src2 evV_len (by omega) HCa.out (bel_trans B3 C0)
        case p3 => exact recV_one evV_one a
        case p4 => unfold maxLen; omega
        case p5 => omega
        case p6 => simp
        intro v5 W5 own5 gr5 _
        have C5 : Below w3.heap.size w3 W5 := C0.grown gr5 (by simp) (fun j hj => (O0.lt j hj).1)
        clear gr5
        obtain ⟨g5, c5, rfl, hc5⟩ : ∃ g c, v5 = .slice g a.length c ∧ a.length ≤ c := own_slice own5
        go_wp2_with (at_builtin; refine wpList_append_own _ rfl _ _ 36 rfl w3.heap.size 23 i0 (.agg #[.int .i64 0, .int .i64 0, .string ByteArray.empty, .string ByteArray.empty]) 4 48 Try.underlying36 hi hz0 hz1 hz2 rfl (by decide) _ _ _ rfl (own5) bd b.length cb (recV evV b) rfl ?q1 ?q2 ?q3 ?q4 ?q5 ?q6 ?_)
        case q1 => rw [recV_length evV_len]
        case q2 => exact rec_src2 evV_len (by omega) HCb.out (bel_trans B3 C5)
        case q3 => exact recV_one evV_one b
        case q4 => unfold maxLen; omega
        case q5 => omega
        case q6 => exact C5.size
        intro v6 W6 own6 gr6 _
        have C6 : Below w3.heap.size w3 W6 := C5.grown gr6 C5.size (fun j hj => (own5.lt j hj).1)
        clear gr6
        obtain ⟨g6, c6, rfl, hc6⟩ := own_slice own6
        rw [← recV_append] at own6
        have TZ := IsRec.own (L := a ++ b) evV_len (by omega) own6 (by omega)
        go_wp2_with fail
        refine (HZ.out _ _ TZ).mono ?_
        rintro e w7 hres7
        obtain ⟨uz, rfl, b7, oz⟩ := hres7
        have B7 := bel_trans (bel_trans B3 C6) b7
        have b37 := bel_trans C6 b7
        have Tz : IsTxt w7 uz Z := IsTxt.own oz (by show Z.length ≤ _; omega) (fun s hs => by have := sZ s hs; omega)
        obtain ⟨az, cz, rfl, hz1', hz2', _⟩ := Tz.some_at
        replace Tx := Tx.below b37
        replace Ty := Ty.below b37
        go_wp2_with fail
        go_ret
        exact ⟨rfl, B7⟩
  · subst h1
    have j1 : ((d : Int) != 0) = true := by rw [bne_iff_ne]; omega
    have j3 : ((g : Int) != 0) = true := by rw [bne_iff_ne]; omega
    clear h2 h3
    cases aa with
    | none =>
      obtain rfl : a = [] := by
        rcases a with _ | ⟨x, r⟩
        · rfl
        · obtain ⟨_, _, h, _⟩ := HCa.out 0 (by simp)
          cases h
      obtain rfl : ca = 0 := by
        rcases Qa with h | ⟨_, _, _, h⟩
        · simpa using h
        · simp at h
      cases ab with
      | none =>
        obtain rfl : b = [] := by
          rcases b with _ | ⟨x, r⟩
          · rfl
          · obtain ⟨_, _, h, _⟩ := HCb.out 0 (by simp)
            cases h
        obtain rfl : cb = 0 := by
          rcases Qb with h | ⟨_, _, _, h⟩
          · simpa using h
          · simp at h
        go_enter Try.func9, Try.ntmps9
        go_wp2_with fail
        refine (HSh.out _ (Below.refl w.heap.size w)).mono ?_
        rintro e w1 ⟨rfl, b1⟩
        have B1 := bel_trans (Below.refl w.heap.size w) b1
        go_wp2_with fail
        refine (HA.out _ B1).mono ?_
        rintro e w2 hres2
        obtain ⟨ux, rfl, b2, ox⟩ := hres2
        have B2 := bel_trans B1 b2
        have Tx : IsTxt w2 ux X := IsTxt.own ox (by show X.length ≤ _; omega) (fun s hs => by have := sX s hs; omega)
        obtain ⟨ax, cx, rfl, hx1, hx2, _⟩ := Tx.some_at
        go_wp2_with fail
        refine (HB.out _ B2).mono ?_
        rintro e w3 hres3
        obtain ⟨uy, rfl, b3, oy⟩ := hres3
        have B3 := bel_trans B2 b3
        have Ty : IsTxt w3 uy Y := IsTxt.own oy (by show Y.length ≤ _; omega) (fun s hs => by have := sY s hs; omega)
        obtain ⟨ay, cy, rfl, hy1, hy2, _⟩ := Ty.some_at
        replace Tx := Tx.below b3
        have C0 : Below w3.heap.size w3 (w3.alloc (.cells #[] 23)) := ((Below.refl w3.heap.size w3).alloc (Nat.le_refl _) (.cells #[] 23))
        have O0 := evs_own_empty w3 23 4
        have TZ := IsRec.own (L := ([] : List Ev)) evV_len (by omega) O0 (by omega)
        go_wp2_with fail
        refine (HZ.out _ _ TZ).mono ?_
        rintro e w7 hres7
        obtain ⟨uz, rfl, b7, oz⟩ := hres7
        have B7 := bel_trans (bel_trans B3 C0) b7
        have b37 := bel_trans C0 b7
        have Tz : IsTxt w7 uz Z := IsTxt.own oz (by show Z.length ≤ _; omega) (fun s hs => by have := sZ s hs; omega)
        obtain ⟨az, cz, rfl, hz1', hz2', _⟩ := Tz.some_at
        replace Tx := Tx.below b37
        replace Ty := Ty.below b37
        go_wp2_with fail
        go_ret
        exact ⟨rfl, B7⟩
      | some bd =>

        go_enter Try.func9, Try.ntmps9
        go_wp2_with fail
        refine (HSh.out _ (Below.refl w.heap.size w)).mono ?_
        rintro e w1 ⟨rfl, b1⟩
        have B1 := bel_trans (Below.refl w.heap.size w) b1
        go_wp2_with fail
        refine (HA.out _ B1).mono ?_
        rintro e w2 hres2
        obtain ⟨ux, rfl, b2, ox⟩ := hres2
        have B2 := bel_trans B1 b2
        have Tx : IsTxt w2 ux X := IsTxt.own ox (by show X.length ≤ _; omega) (fun s hs => by have := sX s hs; omega)
        obtain ⟨ax, cx, rfl, hx1, hx2, _⟩ := Tx.some_at
        go_wp2_with fail
        refine (HB.out _ B2).mono ?_
        rintro e w3 hres3
        obtain ⟨uy, rfl, b3, oy⟩ := hres3
        have B3 := bel_trans B2 b3
        have Ty : IsTxt w3 uy Y := IsTxt.own oy (by show Y.length ≤ _; omega) (fun s hs => by have := sY s hs; omega)
        obtain ⟨ay, cy, rfl, hy1, hy2, _⟩ := Ty.some_at
        replace Tx := Tx.below b3
        have C0 : Below w3.heap.size w3 (w3.alloc (.cells #[] 23)) := ((Below.refl w3.heap.size w3).alloc (Nat.le_refl _) (.cells #[] 23))
        have O0 := evs_own_empty w3 23 4
        go_wp2_with (at_builtin; refine wpList_append_own _ rfl _ _ 36 rfl w3.heap.size 23 i0 (.agg #[.int .i64 0, .int .i64 0, .string ByteArray.empty, .string ByteArray.empty]) 4 48 Try.underlying36 hi hz0 hz1 hz2 rfl (by decide) _ _ _ rfl (O0) bd b.length cb (recV evV b) rfl ?q1 ?q2 ?q3 ?q4 ?q5 ?q6 ?_)
        case q1 => rw [recV_length evV_len]
        case q2 => exact rec_src2 evV_len (by omega) HCb.out (bel_trans B3 C0)
        case q3 => exact recV_one evV_one b
        case q4 => unfold maxLen; omega
        case q5 => omega
        case q6 => exact C0.size
        intro v6 W6 own6 gr6 _
        have C6 : Below w3.heap.size w3 W6 := C0.grown gr6 C0.size (fun j hj => (O0.lt j hj).1)
        clear gr6
        obtain ⟨g6, c6, rfl, hc6⟩ := own_slice own6
        have TZ := IsRec.own (L := b) evV_len (by omega) own6 (by omega)
        go_wp2_with fail
        refine (HZ.out _ _ TZ).mono ?_
        rintro e w7 hres7
        obtain ⟨uz, rfl, b7, oz⟩ := hres7
        have B7 := bel_trans (bel_trans B3 C6) b7
        have b37 := bel_trans C6 b7
        have Tz : IsTxt w7 uz Z := IsTxt.own oz (by show Z.length ≤ _; omega) (fun s hs => by have := sZ s hs; omega)
        obtain ⟨az, cz, rfl, hz1', hz2', _⟩ := Tz.some_at
        replace Tx := Tx.below b37
        replace Ty := Ty.below b37
        go_wp2_with fail
        go_ret
        exact ⟨rfl, B7⟩
    | some ad =>
      cases ab with
      | none =>
        obtain rfl : b = [] := by
          rcases b with _ | ⟨x, r⟩
          · rfl
          · obtain ⟨_, _, h, _⟩ := HCb.out 0 (by simp)
            cases h
        obtain rfl : cb = 0 := by
          rcases Qb with h | ⟨_, _, _, h⟩
          · simpa using h
          · simp at h
        rw [List.append_nil] at HZ
        go_enter Try.func9, Try.ntmps9
        go_wp2_with fail
        refine (HSh.out _ (Below.refl w.heap.size w)).mono ?_
        rintro e w1 ⟨rfl, b1⟩
        have B1 := bel_trans (Below.refl w.heap.size w) b1
        go_wp2_with fail
        refine (HA.out _ B1).mono ?_
        rintro e w2 hres2
        obtain ⟨ux, rfl, b2, ox⟩ := hres2
        have B2 := bel_trans B1 b2
        have Tx : IsTxt w2 ux X := IsTxt.own ox (by show X.length ≤ _; omega) (fun s hs => by have := sX s hs; omega)
        obtain ⟨ax, cx, rfl, hx1, hx2, _⟩ := Tx.some_at
        go_wp2_with fail
        refine (HB.out _ B2).mono ?_
        rintro e w3 hres3
        obtain ⟨uy, rfl, b3, oy⟩ := hres3
        have B3 := bel_trans B2 b3
        have Ty : IsTxt w3 uy Y := IsTxt.own oy (by show Y.length ≤ _; omega) (fun s hs => by have := sY s hs; omega)
        obtain ⟨ay, cy, rfl, hy1, hy2, _⟩ := Ty.some_at
        replace Tx := Tx.below b3
        have C0 : Below w3.heap.size w3 (w3.alloc (.cells #[] 23)) := ((Below.refl w3.heap.size w3).alloc (Nat.le_refl _) (.cells #[] 23))
        have O0 := evs_own_empty w3 23 4
        go_wp2_with (at_builtin; refine wpList_append_own _ rfl _ _ 36 rfl w3.heap.size 23 i0 (.agg #[.int .i64 0, .int .i64 0, .string ByteArray.empty, .string ByteArray.empty]) 4 48 Try.underlying36 hi hz0 hz1 hz2 rfl (by decide) _ _ _ rfl (O0) ad a.length ca (recV evV a) rfl ?p1 ?p2 ?p3 ?p4 ?p5 ?p6 ?_)
        case p1 => rw [recV_length evV_len]
        case p2 => exact rec_src2 evV_len (by omega) HCa.out (bel_trans B3 C0)
        case p3 => exact recV_one evV_one a
        case p4 => unfold maxLen; omega
        case p5 => omega
        case p6 => simp
        intro v5 W5 own5 gr5 _
        have C5 : Below w3.heap.size w3 W5 := C0.grown gr5 (by simp) (fun j hj => (O0.lt j hj).1)
        clear gr5
        obtain ⟨g5, c5, rfl, hc5⟩ : ∃ g c, v5 = .slice g a.length c ∧ a.length ≤ c := own_slice own5
        go_wp2_with (at_builtin; refine wpList_append_own_none rfl _ _ 36 rfl w3.heap.size 23 i0 4 Try.underlying36 hi _ _ _ rfl own5 rfl ?_)
        have TZ := IsRec.own (L := a) evV_len (by omega) own5 (by omega)
        go_wp2_with fail
        refine (HZ.out _ _ TZ).mono ?_
        rintro e w7 hres7
        obtain ⟨uz, rfl, b7, oz⟩ := hres7
        have B7 := bel_trans (bel_trans B3 C5) b7
        have b37 := bel_trans C5 b7
        have Tz : IsTxt w7 uz Z := IsTxt.own oz (by show Z.length ≤ _; omega) (fun s hs => by have := sZ s hs; omega)
        obtain ⟨az, cz, rfl, hz1', hz2', _⟩ := Tz.some_at
        replace Tx := Tx.below b37
        replace Ty := Ty.below b37
        go_wp2_with fail
        go_ret
        exact ⟨rfl, B7⟩
      | some bd =>
        go_enter Try.func9, Try.ntmps9
        go_wp2_with fail
        refine (HSh.out _ (Below.refl w.heap.size w)).mono ?_
        rintro e w1 ⟨rfl, b1⟩
        have B1 := bel_trans (Below.refl w.heap.size w) b1
        go_wp2_with fail
        refine (HA.out _ B1).mono ?_
        rintro e w2 hres2
        obtain ⟨ux, rfl, b2, ox⟩ := hres2
        have B2 := bel_trans B1 b2
        have Tx : IsTxt w2 ux X := IsTxt.own ox (by show X.length ≤ _; omega) (fun s hs => by have := sX s hs; omega)
        obtain ⟨ax, cx, rfl, hx1, hx2, _⟩ := Tx.some_at
        go_wp2_with fail
        refine (HB.out _ B2).mono ?_
        rintro e w3 hres3
        obtain ⟨uy, rfl, b3, oy⟩ := hres3
        have B3 := bel_trans B2 b3
        have Ty : IsTxt w3 uy Y := IsTxt.own oy (by show Y.length ≤ _; omega) (fun s hs => by have := sY s hs; omega)
        obtain ⟨ay, cy, rfl, hy1, hy2, _⟩ := Ty.some_at
        replace Tx := Tx.below b3
        have C0 : Below w3.heap.size w3 (w3.alloc (.cells #[] 23)) := ((Below.refl w3.heap.size w3).alloc (Nat.le_refl _) (.cells #[] 23))
        have O0 := evs_own_empty w3 23 4
        go_wp2_with (at_builtin; refine wpList_append_own _ rfl _ _ 36 rfl w3.heap.size 23 i0 (.agg #[.int .i64 0, .int .i64 0, .string ByteArray.empty, .string ByteArray.empty]) 4 48 Try.underlying36 hi hz0 hz1 hz2 rfl (by decide) _ _ _ rfl (O0) ad a.length ca (recV evV a) rfl ?p1 ?p2 ?p3 ?p4 ?p5 ?p6 ?_)
        case p1 => rw [recV_length evV_len]
        case p2 => exact rec_src2 evV_len (by omega) HCa.out (bel_trans B3 C0)
        case p3 => exact recV_one evV_one a
        case p4 => unfold maxLen; omega
        case p5 => omega
        case p6 => simp
        intro v5 W5 own5 gr5 _
        have C5 : Below w3.heap.size w3 W5 := C0.grown gr5 (by simp) (fun j hj => (O0.lt j hj).1)
        clear gr5
        obtain ⟨g5, c5, rfl, hc5⟩ : ∃ g c, v5 = .slice g a.length c ∧ a.length ≤ c := own_slice own5
        go_wp2_with (at_builtin; refine wpList_append_own _ rfl _ _ 36 rfl w3.heap.size 23 i0 (.agg #[.int .i64 0, .int .i64 0, .string ByteArray.empty, .string ByteArray.empty]) 4 48 Try.underlying36 hi hz0 hz1 hz2 rfl (by decide) _ _ _ rfl (own5) bd b.length cb (recV evV b) rfl ?q1 ?q2 ?q3 ?q4 ?q5 ?q6 ?_)
        case q1 => rw [recV_length evV_len]
        case q2 => exact rec_src2 evV_len (by omega) HCb.out (bel_trans B3 C5)
        case q3 => exact recV_one evV_one b
        case q4 => unfold maxLen; omega
        case q5 => omega
        case q6 => exact C5.size
        intro v6 W6 own6 gr6 _
        have C6 : Below w3.heap.size w3 W6 := C5.grown gr6 C5.size (fun j hj => (own5.lt j hj).1)
        clear gr6
        obtain ⟨g6, c6, rfl, hc6⟩ := own_slice own6
        rw [← recV_append] at own6
        have TZ := IsRec.own (L := a ++ b) evV_len (by omega) own6 (by omega)
        go_wp2_with fail
        refine (HZ.out _ _ TZ).mono ?_
        rintro e w7 hres7
        obtain ⟨uz, rfl, b7, oz⟩ := hres7
        have B7 := bel_trans (bel_trans B3 C6) b7
        have b37 := bel_trans C6 b7
        have Tz : IsTxt w7 uz Z := IsTxt.own oz (by show Z.length ≤ _; omega) (fun s hs => by have := sZ s hs; omega)
        obtain ⟨az, cz, rfl, hz1', hz2', _⟩ := Tz.some_at
        replace Tx := Tx.below b37
        replace Ty := Ty.below b37
        go_wp2_with fail
        go_ret
        exact ⟨rfl, B7⟩
  · subst h1 h2 h4
    have j1 : (256 : Int) < (a.length : Int) + (b.length : Int) := by omega
    cases aa with
    | none =>
      obtain rfl : a = [] := by
        rcases a with _ | ⟨x, r⟩
        · rfl
        · obtain ⟨_, _, h, _⟩ := HCa.out 0 (by simp)
          cases h
      obtain rfl : ca = 0 := by
        rcases Qa with h | ⟨_, _, _, h⟩
        · simpa using h
        · simp at h
      cases ab with
      | none =>
        obtain rfl : b = [] := by
          rcases b with _ | ⟨x, r⟩
          · rfl
          · obtain ⟨_, _, h, _⟩ := HCb.out 0 (by simp)
            cases h
        obtain rfl : cb = 0 := by
          rcases Qb with h | ⟨_, _, _, h⟩
          · simpa using h
          · simp at h
        exact absurd h3 (by simp)
      | some bd =>
        have jJ := j1
        try simp at jJ
        go_enter Try.func9, Try.ntmps9
        go_wp2_with fail
        refine (HSh.out _ (Below.refl w.heap.size w)).mono ?_
        rintro e w1 ⟨rfl, b1⟩
        have B1 := bel_trans (Below.refl w.heap.size w) b1
        go_wp2_with fail
        refine (HA.out _ B1).mono ?_
        rintro e w2 hres2
        obtain ⟨ux, rfl, b2, ox⟩ := hres2
        have B2 := bel_trans B1 b2
        have Tx : IsTxt w2 ux X := IsTxt.own ox (by show X.length ≤ _; omega) (fun s hs => by have := sX s hs; omega)
        obtain ⟨ax, cx, rfl, hx1, hx2, _⟩ := Tx.some_at
        go_wp2_with fail
        refine (HB.out _ B2).mono ?_
        rintro e w3 hres3
        obtain ⟨uy, rfl, b3, oy⟩ := hres3
        have B3 := bel_trans B2 b3
        have Ty : IsTxt w3 uy Y := IsTxt.own oy (by show Y.length ≤ _; omega) (fun s hs => by have := sY s hs; omega)
        obtain ⟨ay, cy, rfl, hy1, hy2, _⟩ := Ty.some_at
        replace Tx := Tx.below b3
        have C0 : Below w3.heap.size w3 (w3.alloc (.cells #[] 23)) := ((Below.refl w3.heap.size w3).alloc (Nat.le_refl _) (.cells #[] 23))
        have O0 := evs_own_empty w3 23 4
        go_wp2_with (at_builtin; refine wpList_append_own _ rfl _ _ 36 rfl w3.heap.size 23 i0 (.agg #[.int .i64 0, .int .i64 0, .string ByteArray.empty, .string ByteArray.empty]) 4 48 Try.underlying36 hi hz0 hz1 hz2 rfl (by decide) _ _ _ rfl (O0) bd b.length cb (recV evV b) rfl ?q1 ?q2 ?q3 ?q4 ?q5 ?q6 ?_)
        case q1 => rw [recV_length evV_len]
        case q2 => exact rec_src2 evV_len (by omega) HCb.out (bel_trans B3 C0)
        case q3 => exact recV_one evV_one b
        case q4 => unfold maxLen; omega
        case q5 => omega
        case q6 => exact C0.size
        intro v6 W6 own6 gr6 _
        have C6 : Below w3.heap.size w3 W6 := C0.grown gr6 C0.size (fun j hj => (O0.lt j hj).1)
        clear gr6
        obtain ⟨g6, c6, rfl, hc6⟩ := own_slice own6
        have TZ := IsRec.own (L := b) evV_len (by omega) own6 (by omega)
        go_wp2_with fail
        refine (HZ.out _ _ TZ).mono ?_
        rintro e w7 hres7
        obtain ⟨uz, rfl, b7, oz⟩ := hres7
        have B7 := bel_trans (bel_trans B3 C6) b7
        have b37 := bel_trans C6 b7
        have Tz : IsTxt w7 uz Z := IsTxt.own oz (by show Z.length ≤ _; omega) (fun s hs => by have := sZ s hs; omega)
        obtain ⟨az, cz, rfl, hz1', hz2', _⟩ := Tz.some_at
        replace Tx := Tx.below b37
        replace Ty := Ty.below b37
        go_wp2_with fail
        go_ret
        exact ⟨rfl, B7⟩
    | some ad =>
      cases ab with
      | none =>
        obtain rfl : b = [] := by
          rcases b with _ | ⟨x, r⟩
          · rfl
          · obtain ⟨_, _, h, _⟩ := HCb.out 0 (by simp)
            cases h
        obtain rfl : cb = 0 := by
          rcases Qb with h | ⟨_, _, _, h⟩
          · simpa using h
          · simp at h
        have jJ := j1
        try simp at jJ
        rw [List.append_nil] at HZ
        go_enter Try.func9, Try.ntmps9
        go_wp2_with fail
        refine (HSh.out _ (Below.refl w.heap.size w)).mono ?_
        rintro e w1 ⟨rfl, b1⟩
        have B1 := bel_trans (Below.refl w.heap.size w) b1
        go_wp2_with fail
        refine (HA.out _ B1).mono ?_
        rintro e w2 hres2
        obtain ⟨ux, rfl, b2, ox⟩ := hres2
        have B2 := bel_trans B1 b2
        have Tx : IsTxt w2 ux X := IsTxt.own ox (by show X.length ≤ _; omega) (fun s hs => by have := sX s hs; omega)
        obtain ⟨ax, cx, rfl, hx1, hx2, _⟩ := Tx.some_at
        go_wp2_with fail
        refine (HB.out _ B2).mono ?_
        rintro e w3 hres3
        obtain ⟨uy, rfl, b3, oy⟩ := hres3
        have B3 := bel_trans B2 b3
        have Ty : IsTxt w3 uy Y := IsTxt.own oy (by show Y.length ≤ _; omega) (fun s hs => by have := sY s hs; omega)
        obtain ⟨ay, cy, rfl, hy1, hy2, _⟩ := Ty.some_at
        replace Tx := Tx.below b3
        have C0 : Below w3.heap.size w3 (w3.alloc (.cells #[] 23)) := ((Below.refl w3.heap.size w3).alloc (Nat.le_refl _) (.cells #[] 23))
        have O0 := evs_own_empty w3 23 4
        go_wp2_with (at_builtin; refine wpList_append_own _ rfl _ _ 36 rfl w3.heap.size 23 i0 (.agg #[.int .i64 0, .int .i64 0, .string ByteArray.empty, .string ByteArray.empty]) 4 48 Try.underlying36 hi hz0 hz1 hz2 rfl (by decide) _ _ _ rfl (O0) ad a.length ca (recV evV a) rfl ?p1 ?p2 ?p3 ?p4 ?p5 ?p6 ?_)
        case p1 => rw [recV_length evV_len]
        case p2 => exact rec_src2 evV_len (by omega) HCa.out (bel_trans B3 C0)
        case p3 => exact recV_one evV_one a
        case p4 => unfold maxLen; omega
        case p5 => omega
        case p6 => simp
        intro v5 W5 own5 gr5 _
        have C5 : Below w3.heap.size w3 W5 := C0.grown gr5 (by simp) (fun j hj => (O0.lt j hj).1)
        clear gr5
        obtain ⟨g5, c5, rfl, hc5⟩ : ∃ g c, v5 = .slice g a.length c ∧ a.length ≤ c := own_slice own5
        go_wp2_with (at_builtin; refine wpList_append_own_none rfl _ _ 36 rfl w3.heap.size 23 i0 4 Try.underlying36 hi _ _ _ rfl own5 rfl ?_)
        have TZ := IsRec.own (L := a) evV_len (by omega) own5 (by omega)
        go_wp2_with fail
        refine (HZ.out _ _ TZ).mono ?_
        rintro e w7 hres7
        obtain ⟨uz, rfl, b7, oz⟩ := hres7
        have B7 := bel_trans (bel_trans B3 C5) b7
        have b37 := bel_trans C5 b7
        have Tz : IsTxt w7 uz Z := IsTxt.own oz (by show Z.length ≤ _; omega) (fun s hs => by have := sZ s hs; omega)
        obtain ⟨az, cz, rfl, hz1', hz2', _⟩ := Tz.some_at
        replace Tx := Tx.below b37
        replace Ty := Ty.below b37
        go_wp2_with fail
        go_ret
        exact ⟨rfl, B7⟩
      | some bd =>
        go_enter Try.func9, Try.ntmps9
        go_wp2_with fail
        refine (HSh.out _ (Below.refl w.heap.size w)).mono ?_
        rintro e w1 ⟨rfl, b1⟩
        have B1 := bel_trans (Below.refl w.heap.size w) b1
        go_wp2_with fail
        refine (HA.out _ B1).mono ?_
        rintro e w2 hres2
        obtain ⟨ux, rfl, b2, ox⟩ := hres2
        have B2 := bel_trans B1 b2
        have Tx : IsTxt w2 ux X := IsTxt.own ox (by show X.length ≤ _; omega) (fun s hs => by have := sX s hs; omega)
        obtain ⟨ax, cx, rfl, hx1, hx2, _⟩ := Tx.some_at
        go_wp2_with fail
        refine (HB.out _ B2).mono ?_
        rintro e w3 hres3
        obtain ⟨uy, rfl, b3, oy⟩ := hres3
        have B3 := bel_trans B2 b3
        have Ty : IsTxt w3 uy Y := IsTxt.own oy (by show Y.length ≤ _; omega) (fun s hs => by have := sY s hs; omega)
        obtain ⟨ay, cy, rfl, hy1, hy2, _⟩ := Ty.some_at
        replace Tx := Tx.below b3
        have C0 : Below w3.heap.size w3 (w3.alloc (.cells #[] 23)) := ((Below.refl w3.heap.size w3).alloc (Nat.le_refl _) (.cells #[] 23))
        have O0 := evs_own_empty w3 23 4
        go_wp2_with (at_builtin; refine wpList_append_own _ rfl _ _ 36 rfl w3.heap.size 23 i0 (.agg #[.int .i64 0, .int .i64 0, .string ByteArray.empty, .string ByteArray.empty]) 4 48 Try.underlying36 hi hz0 hz1 hz2 rfl (by decide) _ _ _ rfl (O0) ad a.length ca (recV evV a) rfl ?p1 ?p2 ?p3 ?p4 ?p5 ?p6 ?_)
        case p1 => rw [recV_length evV_len]
        case p2 => exact rec_src2 evV_len (by omega) HCa.out (bel_trans B3 C0)
        case p3 => exact recV_one evV_one a
        case p4 => unfold maxLen; omega
        case p5 => omega
        case p6 => simp
        intro v5 W5 own5 gr5 _
        have C5 : Below w3.heap.size w3 W5 := C0.grown gr5 (by simp) (fun j hj => (O0.lt j hj).1)
        clear gr5
        obtain ⟨g5, c5, rfl, hc5⟩ : ∃ g c, v5 = .slice g a.length c ∧ a.length ≤ c := own_slice own5
        go_wp2_with (at_builtin; refine wpList_append_own _ rfl _ _ 36 rfl w3.heap.size 23 i0 (.agg #[.int .i64 0, .int .i64 0, .string ByteArray.empty, .string ByteArray.empty]) 4 48 Try.underlying36 hi hz0 hz1 hz2 rfl (by decide) _ _ _ rfl (own5) bd b.length cb (recV evV b) rfl ?q1 ?q2 ?q3 ?q4 ?q5 ?q6 ?_)
        case q1 => rw [recV_length evV_len]
        case q2 => exact rec_src2 evV_len (by omega) HCb.out (bel_trans B3 C5)
        case q3 => exact recV_one evV_one b
        case q4 => unfold maxLen; omega
        case q5 => omega
        case q6 => exact C5.size
        intro v6 W6 own6 gr6 _
        have C6 : Below w3.heap.size w3 W6 := C5.grown gr6 C5.size (fun j hj => (own5.lt j hj).1)
        clear gr6
        obtain ⟨g6, c6, rfl, hc6⟩ := own_slice own6
        rw [← recV_append] at own6
        have TZ := IsRec.own (L := a ++ b) evV_len (by omega) own6 (by omega)
        go_wp2_with fail
        refine (HZ.out _ _ TZ).mono ?_
        rintro e w7 hres7
        obtain ⟨uz, rfl, b7, oz⟩ := hres7
        have B7 := bel_trans (bel_trans B3 C6) b7
        have b37 := bel_trans C6 b7
        have Tz : IsTxt w7 uz Z := IsTxt.own oz (by show Z.length ≤ _; omega) (fun s hs => by have := sZ s hs; omega)
        obtain ⟨az, cz, rfl, hz1', hz2', _⟩ := Tz.some_at
        replace Tx := Tx.below b37
        replace Ty := Ty.below b37
        go_wp2_with fail
        go_ret
        exact ⟨rfl, B7⟩
  · subst h1 h2 h4
    have j1 : ¬ (256 : Int) < (a.length : Int) + (b.length : Int) := by omega
    have e5 : ((Z.length : Int) != (X.length : Int) + (Y.length : Int)) = false := by rw [h5, List.length_append]; simp
    have H5 : Hid (Z = X ++ Y) := h5
    clear h5
    cases aa with
    | none =>
      obtain rfl : a = [] := by
        rcases a with _ | ⟨x, r⟩
        · rfl
        · obtain ⟨_, _, h, _⟩ := HCa.out 0 (by simp)
          cases h
      obtain rfl : ca = 0 := by
        rcases Qa with h | ⟨_, _, _, h⟩
        · simpa using h
        · simp at h
      cases ab with
      | none =>
        obtain rfl : b = [] := by
          rcases b with _ | ⟨x, r⟩
          · rfl
          · obtain ⟨_, _, h, _⟩ := HCb.out 0 (by simp)
            cases h
        obtain rfl : cb = 0 := by
          rcases Qb with h | ⟨_, _, _, h⟩
          · simpa using h
          · simp at h
        have jJ := j1
        try simp at jJ
        go_enter Try.func9, Try.ntmps9
        go_wp2_with fail
        refine (HSh.out _ (Below.refl w.heap.size w)).mono ?_
        rintro e w1 ⟨rfl, b1⟩
        have B1 := bel_trans (Below.refl w.heap.size w) b1
        go_wp2_with fail
        refine (HA.out _ B1).mono ?_
        rintro e w2 hres2
        obtain ⟨ux, rfl, b2, ox⟩ := hres2
        have B2 := bel_trans B1 b2
        have Tx : IsTxt w2 ux X := IsTxt.own ox (by show X.length ≤ _; omega) (fun s hs => by have := sX s hs; omega)
        obtain ⟨ax, cx, rfl, hx1, hx2, _⟩ := Tx.some_at
        go_wp2_with fail
        refine (HB.out _ B2).mono ?_
        rintro e w3 hres3
        obtain ⟨uy, rfl, b3, oy⟩ := hres3
        have B3 := bel_trans B2 b3
        have Ty : IsTxt w3 uy Y := IsTxt.own oy (by show Y.length ≤ _; omega) (fun s hs => by have := sY s hs; omega)
        obtain ⟨ay, cy, rfl, hy1, hy2, _⟩ := Ty.some_at
        replace Tx := Tx.below b3
        have C0 : Below w3.heap.size w3 (w3.alloc (.cells #[] 23)) := ((Below.refl w3.heap.size w3).alloc (Nat.le_refl _) (.cells #[] 23))
        have O0 := evs_own_empty w3 23 4
        have TZ := IsRec.own (L := ([] : List Ev)) evV_len (by omega) O0 (by omega)
        go_wp2_with fail
        refine (HZ.out _ _ TZ).mono ?_
        rintro e w7 hres7
        obtain ⟨uz, rfl, b7, oz⟩ := hres7
        have B7 := bel_trans (bel_trans B3 C0) b7
        have b37 := bel_trans C0 b7
        have Tz : IsTxt w7 uz Z := IsTxt.own oz (by show Z.length ≤ _; omega) (fun s hs => by have := sZ s hs; omega)
        obtain ⟨az, cz, rfl, hz1', hz2', _⟩ := Tz.some_at
        replace Tx := Tx.below b37
        replace Ty := Ty.below b37
        obtain ⟨_, _, hx0, _, _, _, HX⟩ := Tx.some_at
        obtain ⟨_, _, hy0, _, _, _, HY⟩ := Ty.some_at
        obtain ⟨_, _, hz0', _, _, _, HZc⟩ := Tz.some_at
        simp only [Value.slice.injEq] at hx0 hy0 hz0'
        obtain ⟨rfl, _, rfl⟩ := hx0
        obtain ⟨rfl, _, rfl⟩ := hy0
        obtain ⟨rfl, _, rfl⟩ := hz0'
        clear Tx Ty Tz
        go_wp2_with fail
        go_loopw [12] (fun i wr => ∃ k : Nat, k ≤ Z.length ∧ i = .int .i64 k ∧ Below w7.heap.size w7 wr) (fun i _ => Z.length - (intOf i).toNat)
        case atStart => exact ⟨0, Nat.zero_le _, rfl, Below.refl _ _⟩
        case round =>
          obtain ⟨k, hk, rfl, hbw⟩ := hrel
          by_cases hlt : k < Z.length
          · obtain ⟨bz, fz, rfl, bz1, bz2⟩ := HZc.out k hlt
            have q0 : wr.cell? ⟨bz, fz + k, none⟩ = some (.string ⟨Z[k].toArray⟩) := (hbw.cell (p := ⟨bz, fz + k, none⟩) bz1).trans bz2
            by_cases hkx : k < X.length
            · obtain ⟨bx, fx, rfl, bx1, bx2⟩ := HX.out k hkx
              have q1 : wr.cell? ⟨bx, fx + k, none⟩ = some (.string ⟨X[k].toArray⟩) := (hbw.cell (p := ⟨bx, fx + k, none⟩) bx1).trans bx2
              have ez : Z[k] = X[k] := by have h5 := H5.out; simp only [h5]; rw [List.getElem_append_left hkx]
              obtain ⟨s, hs⟩ : ∃ s, X[k] = s := ⟨_, rfl⟩
              rw [ez, hs] at q0
              rw [hs] at q1
              have es : (s == s) = true := beq_self_eq_true s
              have jx : (k : Int) < (X.length : Int) := by omega
              have jn : ¬ (X.length : Int) ≤ (k : Int) := by omega
              have jn2 : ¬ X.length ≤ k := by omega
              clear hs ez bz2 bx2
              go_wp2_with fail
              go_quiet (fail)
              go_wp2_with fail
              refine ⟨⟨k + 1, by omega, rfl, below_drewN hbw _⟩, by simp [intOf]; omega⟩
            · obtain ⟨j, hj⟩ : ∃ j, k = X.length + j := ⟨k - X.length, by omega⟩
              have hky : j < Y.length := by have h5 := congrArg List.length H5.out; rw [List.length_append] at h5; omega
              obtain ⟨b0, f0, rfl, by1, by2⟩ := HY.out j hky
              have q1 : wr.cell? ⟨b0, f0 + j, none⟩ = some (.string ⟨Y[j].toArray⟩) := (hbw.cell (p := ⟨b0, f0 + j, none⟩) by1).trans by2
              have ez : Z[k] = Y[j] := by
                have h5 := H5.out
                simp only [h5, hj]
                rw [List.getElem_append_right (by omega)]
                simp
              obtain ⟨s, hs⟩ : ∃ s, Y[j] = s := ⟨_, rfl⟩
              rw [ez, hs] at q0
              rw [hs] at q1
              have es : (s == s) = true := beq_self_eq_true s
              have jx : ¬ (k : Int) < (X.length : Int) := by omega
              have jy : (X.length : Int) ≤ (k : Int) := by omega
              have jy2 : X.length ≤ k := by omega
              have jy3 : ¬ k < X.length := hkx
              have jz : (k : Int) - (X.length : Int) = (j : Int) := by omega
              clear hs ez by2 bz2 hj
              go_wp2_with fail
              go_quiet (fail)
              go_wp2_with fail
              refine ⟨⟨k + 1, by omega, rfl, below_drewN hbw _⟩, by simp [intOf]; omega⟩
          · go_wp2_with fail
            go_ret
            exact ⟨rfl, bel_trans B7 hbw⟩
      | some bd =>
        have jJ := j1
        try simp at jJ
        go_enter Try.func9, Try.ntmps9
        go_wp2_with fail
        refine (HSh.out _ (Below.refl w.heap.size w)).mono ?_
        rintro e w1 ⟨rfl, b1⟩
        have B1 := bel_trans (Below.refl w.heap.size w) b1
        go_wp2_with fail
        refine (HA.out _ B1).mono ?_
        rintro e w2 hres2
        obtain ⟨ux, rfl, b2, ox⟩ := hres2
        have B2 := bel_trans B1 b2
        have Tx : IsTxt w2 ux X := IsTxt.own ox (by show X.length ≤ _; omega) (fun s hs => by have := sX s hs; omega)
        obtain ⟨ax, cx, rfl, hx1, hx2, _⟩ := Tx.some_at
        go_wp2_with fail
        refine (HB.out _ B2).mono ?_
        rintro e w3 hres3
        obtain ⟨uy, rfl, b3, oy⟩ := hres3
        have B3 := bel_trans B2 b3
        have Ty : IsTxt w3 uy Y := IsTxt.own oy (by show Y.length ≤ _; omega) (fun s hs => by have := sY s hs; omega)
        obtain ⟨ay, cy, rfl, hy1, hy2, _⟩ := Ty.some_at
        replace Tx := Tx.below b3
        have C0 : Below w3.heap.size w3 (w3.alloc (.cells #[] 23)) := ((Below.refl w3.heap.size w3).alloc (Nat.le_refl _) (.cells #[] 23))
        have O0 := evs_own_empty w3 23 4
        go_wp2_with (at_builtin; refine wpList_append_own _ rfl _ _ 36 rfl w3.heap.size 23 i0 (.agg #[.int .i64 0, .int .i64 0, .string ByteArray.empty, .string ByteArray.empty]) 4 48 Try.underlying36 hi hz0 hz1 hz2 rfl (by decide) _ _ _ rfl (O0) bd b.length cb (recV evV b) rfl ?q1 ?q2 ?q3 ?q4 ?q5 ?q6 ?_)
        case q1 => rw [recV_length evV_len]
        case q2 => exact rec_src2 evV_len (by omega) HCb.out (bel_trans B3 C0)
        case q3 => exact recV_one evV_one b
        case q4 => unfold maxLen; omega
        case q5 => omega
        case q6 => exact C0.size
        intro v6 W6 own6 gr6 _
        have C6 : Below w3.heap.size w3 W6 := C0.grown gr6 C0.size (fun j hj => (O0.lt j hj).1)
        clear gr6
        obtain ⟨g6, c6, rfl, hc6⟩ := own_slice own6
        have TZ := IsRec.own (L := b) evV_len (by omega) own6 (by omega)
        go_wp2_with fail
        refine (HZ.out _ _ TZ).mono ?_
        rintro e w7 hres7
        obtain ⟨uz, rfl, b7, oz⟩ := hres7
        have B7 := bel_trans (bel_trans B3 C6) b7
        have b37 := bel_trans C6 b7
        have Tz : IsTxt w7 uz Z := IsTxt.own oz (by show Z.length ≤ _; omega) (fun s hs => by have := sZ s hs; omega)
        obtain ⟨az, cz, rfl, hz1', hz2', _⟩ := Tz.some_at
        replace Tx := Tx.below b37
        replace Ty := Ty.below b37
        obtain ⟨_, _, hx0, _, _, _, HX⟩ := Tx.some_at
        obtain ⟨_, _, hy0, _, _, _, HY⟩ := Ty.some_at
        obtain ⟨_, _, hz0', _, _, _, HZc⟩ := Tz.some_at
        simp only [Value.slice.injEq] at hx0 hy0 hz0'
        obtain ⟨rfl, _, rfl⟩ := hx0
        obtain ⟨rfl, _, rfl⟩ := hy0
        obtain ⟨rfl, _, rfl⟩ := hz0'
        clear Tx Ty Tz
        go_wp2_with fail
        go_loopw [12] (fun i wr => ∃ k : Nat, k ≤ Z.length ∧ i = .int .i64 k ∧ Below w7.heap.size w7 wr) (fun i _ => Z.length - (intOf i).toNat)
        case atStart => exact ⟨0, Nat.zero_le _, rfl, Below.refl _ _⟩
        case round =>
          obtain ⟨k, hk, rfl, hbw⟩ := hrel
          by_cases hlt : k < Z.length
          · obtain ⟨bz, fz, rfl, bz1, bz2⟩ := HZc.out k hlt
            have q0 : wr.cell? ⟨bz, fz + k, none⟩ = some (.string ⟨Z[k].toArray⟩) := (hbw.cell (p := ⟨bz, fz + k, none⟩) bz1).trans bz2
            by_cases hkx : k < X.length
            · obtain ⟨bx, fx, rfl, bx1, bx2⟩ := HX.out k hkx
              have q1 : wr.cell? ⟨bx, fx + k, none⟩ = some (.string ⟨X[k].toArray⟩) := (hbw.cell (p := ⟨bx, fx + k, none⟩) bx1).trans bx2
              have ez : Z[k] = X[k] := by have h5 := H5.out; simp only [h5]; rw [List.getElem_append_left hkx]
              obtain ⟨s, hs⟩ : ∃ s, X[k] = s := ⟨_, rfl⟩
              rw [ez, hs] at q0
              rw [hs] at q1
              have es : (s == s) = true := beq_self_eq_true s
              have jx : (k : Int) < (X.length : Int) := by omega
              have jn : ¬ (X.length : Int) ≤ (k : Int) := by omega
              have jn2 : ¬ X.length ≤ k := by omega
              clear hs ez bz2 bx2
              go_wp2_with fail
              go_quiet (fail)
              go_wp2_with fail
              refine ⟨⟨k + 1, by omega, rfl, below_drewN hbw _⟩, by simp [intOf]; omega⟩
            · obtain ⟨j, hj⟩ : ∃ j, k = X.length + j := ⟨k - X.length, by omega⟩
              have hky : j < Y.length := by have h5 := congrArg List.length H5.out; rw [List.length_append] at h5; omega
              obtain ⟨b0, f0, rfl, by1, by2⟩ := HY.out j hky
              have q1 : wr.cell? ⟨b0, f0 + j, none⟩ = some (.string ⟨Y[j].toArray⟩) := (hbw.cell (p := ⟨b0, f0 + j, none⟩) by1).trans by2
              have ez : Z[k] = Y[j] := by
                have h5 := H5.out
                simp only [h5, hj]
                rw [List.getElem_append_right (by omega)]
                simp
              obtain ⟨s, hs⟩ : ∃ s, Y[j] = s := ⟨_, rfl⟩
              rw [ez, hs] at q0
              rw [hs] at q1
              have es : (s == s) = true := beq_self_eq_true s
              have jx : ¬ (k : Int) < (X.length : Int) := by omega
              have jy : (X.length : Int) ≤ (k : Int) := by omega
              have jy2 : X.length ≤ k := by omega
              have jy3 : ¬ k < X.length := hkx
              have jz : (k : Int) - (X.length : Int) = (j : Int) := by omega
              clear hs ez by2 bz2 hj
              go_wp2_with fail
              go_quiet (fail)
              go_wp2_with fail
              refine ⟨⟨k + 1, by omega, rfl, below_drewN hbw _⟩, by simp [intOf]; omega⟩
          · go_wp2_with fail
            go_ret
            exact ⟨rfl, bel_trans B7 hbw⟩
    | some ad =>
      cases ab with
      | none =>
        obtain rfl : b = [] := by
          rcases b with _ | ⟨x, r⟩
          · rfl
          · obtain ⟨_, _, h, _⟩ := HCb.out 0 (by simp)
            cases h
        obtain rfl : cb = 0 := by
          rcases Qb with h | ⟨_, _, _, h⟩
          · simpa using h
          · simp at h
        have jJ := j1
        try simp at jJ
        rw [List.append_nil] at HZ
        go_enter Try.func9, Try.ntmps9
        go_wp2_with fail
        refine (HSh.out _ (Below.refl w.heap.size w)).mono ?_
        rintro e w1 ⟨rfl, b1⟩
        have B1 := bel_trans (Below.refl w.heap.size w) b1
        go_wp2_with fail
        refine (HA.out _ B1).mono ?_
        rintro e w2 hres2
        obtain ⟨ux, rfl, b2, ox⟩ := hres2
        have B2 := bel_trans B1 b2
        have Tx : IsTxt w2 ux X := IsTxt.own ox (by show X.length ≤ _; omega) (fun s hs => by have := sX s hs; omega)
        obtain ⟨ax, cx, rfl, hx1, hx2, _⟩ := Tx.some_at
        go_wp2_with fail
        refine (HB.out _ B2).mono ?_
        rintro e w3 hres3
        obtain ⟨uy, rfl, b3, oy⟩ := hres3
        have B3 := bel_trans B2 b3
        have Ty : IsTxt w3 uy Y := IsTxt.own oy (by show Y.length ≤ _; omega) (fun s hs => by have := sY s hs; omega)
        obtain ⟨ay, cy, rfl, hy1, hy2, _⟩ := Ty.some_at
        replace Tx := Tx.below b3
        have C0 : Below w3.heap.size w3 (w3.alloc (.cells #[] 23)) := ((Below.refl w3.heap.size w3).alloc (Nat.le_refl _) (.cells #[] 23))
        have O0 := evs_own_empty w3 23 4
        go_wp2_with (at_builtin; refine wpList_append_own _ rfl _ _ 36 rfl w3.heap.size 23 i0 (.agg #[.int .i64 0, .int .i64 0, .string ByteArray.empty, .string ByteArray.empty]) 4 48 Try.underlying36 hi hz0 hz1 hz2 rfl (by decide) _ _ _ rfl (O0) ad a.length ca (recV evV a) rfl ?p1 ?p2 ?p3 ?p4 ?p5 ?p6 ?_)
        case p1 => rw [recV_length evV_len]
        case p2 => exact rec_src2 evV_len (by omega) HCa.out (bel_trans B3 C0)
        case p3 => exact recV_one evV_one a
        case p4 => unfold maxLen; omega
        case p5 => omega
        case p6 => simp
        intro v5 W5 own5 gr5 _
        have C5 : Below w3.heap.size w3 W5 := C0.grown gr5 (by simp) (fun j hj => (O0.lt j hj).1)
        clear gr5
        obtain ⟨g5, c5, rfl, hc5⟩ : ∃ g c, v5 = .slice g a.length c ∧ a.length ≤ c := own_slice own5
        go_wp2_with (at_builtin; refine wpList_append_own_none rfl _ _ 36 rfl w3.heap.size 23 i0 4 Try.underlying36 hi _ _ _ rfl own5 rfl ?_)
        have TZ := IsRec.own (L := a) evV_len (by omega) own5 (by omega)
        go_wp2_with fail
        refine (HZ.out _ _ TZ).mono ?_
        rintro e w7 hres7
        obtain ⟨uz, rfl, b7, oz⟩ := hres7
        have B7 := bel_trans (bel_trans B3 C5) b7
        have b37 := bel_trans C5 b7
        have Tz : IsTxt w7 uz Z := IsTxt.own oz (by show Z.length ≤ _; omega) (fun s hs => by have := sZ s hs; omega)
        obtain ⟨az, cz, rfl, hz1', hz2', _⟩ := Tz.some_at
        replace Tx := Tx.below b37
        replace Ty := Ty.below b37
        obtain ⟨_, _, hx0, _, _, _, HX⟩ := Tx.some_at
        obtain ⟨_, _, hy0, _, _, _, HY⟩ := Ty.some_at
        obtain ⟨_, _, hz0', _, _, _, HZc⟩ := Tz.some_at
        simp only [Value.slice.injEq] at hx0 hy0 hz0'
        obtain ⟨rfl, _, rfl⟩ := hx0
        obtain ⟨rfl, _, rfl⟩ := hy0
        obtain ⟨rfl, _, rfl⟩ := hz0'
        clear Tx Ty Tz
        go_wp2_with fail
        go_loopw [12] (fun i wr => ∃ k : Nat, k ≤ Z.length ∧ i = .int .i64 k ∧ Below w7.heap.size w7 wr) (fun i _ => Z.length - (intOf i).toNat)
        case atStart => exact ⟨0, Nat.zero_le _, rfl, Below.refl _ _⟩
        case round =>
          obtain ⟨k, hk, rfl, hbw⟩ := hrel
          by_cases hlt : k < Z.length
          · obtain ⟨bz, fz, rfl, bz1, bz2⟩ := HZc.out k hlt
            have q0 : wr.cell? ⟨bz, fz + k, none⟩ = some (.string ⟨Z[k].toArray⟩) := (hbw.cell (p := ⟨bz, fz + k, none⟩) bz1).trans bz2
            by_cases hkx : k < X.length
            · obtain ⟨bx, fx, rfl, bx1, bx2⟩ := HX.out k hkx
              have q1 : wr.cell? ⟨bx, fx + k, none⟩ = some (.string ⟨X[k].toArray⟩) := (hbw.cell (p := ⟨bx, fx + k, none⟩) bx1).trans bx2
              have ez : Z[k] = X[k] := by have h5 := H5.out; simp only [h5]; rw [List.getElem_append_left hkx]
              obtain ⟨s, hs⟩ : ∃ s, X[k] = s := ⟨_, rfl⟩
              rw [ez, hs] at q0
              rw [hs] at q1
              have es : (s == s) = true := beq_self_eq_true s
              have jx : (k : Int) < (X.length : Int) := by omega
              have jn : ¬ (X.length : Int) ≤ (k : Int) := by omega
              have jn2 : ¬ X.length ≤ k := by omega
              clear hs ez bz2 bx2
              go_wp2_with fail
              go_quiet (fail)
              go_wp2_with fail
              refine ⟨⟨k + 1, by omega, rfl, below_drewN hbw _⟩, by simp [intOf]; omega⟩
            · obtain ⟨j, hj⟩ : ∃ j, k = X.length + j := ⟨k - X.length, by omega⟩
              have hky : j < Y.length := by have h5 := congrArg List.length H5.out; rw [List.length_append] at h5; omega
              obtain ⟨b0, f0, rfl, by1, by2⟩ := HY.out j hky
              have q1 : wr.cell? ⟨b0, f0 + j, none⟩ = some (.string ⟨Y[j].toArray⟩) := (hbw.cell (p := ⟨b0, f0 + j, none⟩) by1).trans by2
              have ez : Z[k] = Y[j] := by
                have h5 := H5.out
                simp only [h5, hj]
                rw [List.getElem_append_right (by omega)]
                simp
              obtain ⟨s, hs⟩ : ∃ s, Y[j] = s := ⟨_, rfl⟩
              rw [ez, hs] at q0
              rw [hs] at q1
              have es : (s == s) = true := beq_self_eq_true s
              have jx : ¬ (k : Int) < (X.length : Int) := by omega
              have jy : (X.length : Int) ≤ (k : Int) := by omega
              have jy2 : X.length ≤ k := by omega
              have jy3 : ¬ k < X.length := hkx
              have jz : (k : Int) - (X.length : Int) = (j : Int) := by omega
              clear hs ez by2 bz2 hj
              go_wp2_with fail
              go_quiet (fail)
              go_wp2_with fail
              refine ⟨⟨k + 1, by omega, rfl, below_drewN hbw _⟩, by simp [intOf]; omega⟩
          · go_wp2_with fail
            go_ret
            exact ⟨rfl, bel_trans B7 hbw⟩
      | some bd =>
        go_enter Try.func9, Try.ntmps9
        go_wp2_with fail
        refine (HSh.out _ (Below.refl w.heap.size w)).mono ?_
        rintro e w1 ⟨rfl, b1⟩
        have B1 := bel_trans (Below.refl w.heap.size w) b1
        go_wp2_with fail
        refine (HA.out _ B1).mono ?_
        rintro e w2 hres2
        obtain ⟨ux, rfl, b2, ox⟩ := hres2
        have B2 := bel_trans B1 b2
        have Tx : IsTxt w2 ux X := IsTxt.own ox (by show X.length ≤ _; omega) (fun s hs => by have := sX s hs; omega)
        obtain ⟨ax, cx, rfl, hx1, hx2, _⟩ := Tx.some_at
        go_wp2_with fail
        refine (HB.out _ B2).mono ?_
        rintro e w3 hres3
        obtain ⟨uy, rfl, b3, oy⟩ := hres3
        have B3 := bel_trans B2 b3
        have Ty : IsTxt w3 uy Y := IsTxt.own oy (by show Y.length ≤ _; omega) (fun s hs => by have := sY s hs; omega)
        obtain ⟨ay, cy, rfl, hy1, hy2, _⟩ := Ty.some_at
        replace Tx := Tx.below b3
        have C0 : Below w3.heap.size w3 (w3.alloc (.cells #[] 23)) := ((Below.refl w3.heap.size w3).alloc (Nat.le_refl _) (.cells #[] 23))
        have O0 := evs_own_empty w3 23 4
        go_wp2_with (at_builtin; refine wpList_append_own _ rfl _ _ 36 rfl w3.heap.size 23 i0 (.agg #[.int .i64 0, .int .i64 0, .string ByteArray.empty, .string ByteArray.empty]) 4 48 Try.underlying36 hi hz0 hz1 hz2 rfl (by decide) _ _ _ rfl (O0) ad a.length ca (recV evV a) rfl ?p1 ?p2 ?p3 ?p4 ?p5 ?p6 ?_)
        case p1 => rw [recV_length evV_len]
        case p2 => exact rec_src2 evV_len (by omega) HCa.out (bel_trans B3 C0)
        case p3 => exact recV_one evV_one a
        case p4 => unfold maxLen; omega
        case p5 => omega
        case p6 => simp
        intro v5 W5 own5 gr5 _
        have C5 : Below w3.heap.size w3 W5 := C0.grown gr5 (by simp) (fun j hj => (O0.lt j hj).1)
        clear gr5
        obtain ⟨g5, c5, rfl, hc5⟩ : ∃ g c, v5 = .slice g a.length c ∧ a.length ≤ c := own_slice own5
        go_wp2_with (at_builtin; refine wpList_append_own _ rfl _ _ 36 rfl w3.heap.size 23 i0 (.agg #[.int .i64 0, .int .i64 0, .string ByteArray.empty, .string ByteArray.empty]) 4 48 Try.underlying36 hi hz0 hz1 hz2 rfl (by decide) _ _ _ rfl (own5) bd b.length cb (recV evV b) rfl ?q1 ?q2 ?q3 ?q4 ?q5 ?q6 ?_)
        case q1 => rw [recV_length evV_len]
        case q2 => exact rec_src2 evV_len (by omega) HCb.out (bel_trans B3 C5)
        case q3 => exact recV_one evV_one b
        case q4 => unfold maxLen; omega
        case q5 => omega
        case q6 => exact C5.size
        intro v6 W6 own6 gr6 _
        have C6 : Below w3.heap.size w3 W6 := C5.grown gr6 C5.size (fun j hj => (own5.lt j hj).1)
        clear gr6
        obtain ⟨g6, c6, rfl, hc6⟩ := own_slice own6
        rw [← recV_append] at own6
        have TZ := IsRec.own (L := a ++ b) evV_len (by omega) own6 (by omega)
        go_wp2_with fail
        refine (HZ.out _ _ TZ).mono ?_
        rintro e w7 hres7
        obtain ⟨uz, rfl, b7, oz⟩ := hres7
        have B7 := bel_trans (bel_trans B3 C6) b7
        have b37 := bel_trans C6 b7
        have Tz : IsTxt w7 uz Z := IsTxt.own oz (by show Z.length ≤ _; omega) (fun s hs => by have := sZ s hs; omega)
        obtain ⟨az, cz, rfl, hz1', hz2', _⟩ := Tz.some_at
        replace Tx := Tx.below b37
        replace Ty := Ty.below b37
        obtain ⟨_, _, hx0, _, _, _, HX⟩ := Tx.some_at
        obtain ⟨_, _, hy0, _, _, _, HY⟩ := Ty.some_at
        obtain ⟨_, _, hz0', _, _, _, HZc⟩ := Tz.some_at
        simp only [Value.slice.injEq] at hx0 hy0 hz0'
        obtain ⟨rfl, _, rfl⟩ := hx0
        obtain ⟨rfl, _, rfl⟩ := hy0
        obtain ⟨rfl, _, rfl⟩ := hz0'
        clear Tx Ty Tz
        go_wp2_with fail
        go_loopw [12] (fun i wr => ∃ k : Nat, k ≤ Z.length ∧ i = .int .i64 k ∧ Below w7.heap.size w7 wr) (fun i _ => Z.length - (intOf i).toNat)
        case atStart => exact ⟨0, Nat.zero_le _, rfl, Below.refl _ _⟩
        case round =>
          obtain ⟨k, hk, rfl, hbw⟩ := hrel
          by_cases hlt : k < Z.length
          · obtain ⟨bz, fz, rfl, bz1, bz2⟩ := HZc.out k hlt
            have q0 : wr.cell? ⟨bz, fz + k, none⟩ = some (.string ⟨Z[k].toArray⟩) := (hbw.cell (p := ⟨bz, fz + k, none⟩) bz1).trans bz2
            by_cases hkx : k < X.length
            · obtain ⟨bx, fx, rfl, bx1, bx2⟩ := HX.out k hkx
              have q1 : wr.cell? ⟨bx, fx + k, none⟩ = some (.string ⟨X[k].toArray⟩) := (hbw.cell (p := ⟨bx, fx + k, none⟩) bx1).trans bx2
              have ez : Z[k] = X[k] := by have h5 := H5.out; simp only [h5]; rw [List.getElem_append_left hkx]
              obtain ⟨s, hs⟩ : ∃ s, X[k] = s := ⟨_, rfl⟩
              rw [ez, hs] at q0
              rw [hs] at q1
              have es : (s == s) = true := beq_self_eq_true s
              have jx : (k : Int) < (X.length : Int) := by omega
              have jn : ¬ (X.length : Int) ≤ (k : Int) := by omega
              have jn2 : ¬ X.length ≤ k := by omega
              clear hs ez bz2 bx2
              go_wp2_with fail
              go_quiet (fail)
              go_wp2_with fail
              refine ⟨⟨k + 1, by omega, rfl, below_drewN hbw _⟩, by simp [intOf]; omega⟩
            · obtain ⟨j, hj⟩ : ∃ j, k = X.length + j := ⟨k - X.length, by omega⟩
              have hky : j < Y.length := by have h5 := congrArg List.length H5.out; rw [List.length_append] at h5; omega
              obtain ⟨b0, f0, rfl, by1, by2⟩ := HY.out j hky
              have q1 : wr.cell? ⟨b0, f0 + j, none⟩ = some (.string ⟨Y[j].toArray⟩) := (hbw.cell (p := ⟨b0, f0 + j, none⟩) by1).trans by2
              have ez : Z[k] = Y[j] := by
                have h5 := H5.out
                simp only [h5, hj]
                rw [List.getElem_append_right (by omega)]
                simp
              obtain ⟨s, hs⟩ : ∃ s, Y[j] = s := ⟨_, rfl⟩
              rw [ez, hs] at q0
              rw [hs] at q1
              have es : (s == s) = true := beq_self_eq_true s
              have jx : ¬ (k : Int) < (X.length : Int) := by omega
              have jy : (X.length : Int) ≤ (k : Int) := by omega
              have jy2 : X.length ≤ k := by omega
              have jy3 : ¬ k < X.length := hkx
              have jz : (k : Int) - (X.length : Int) = (j : Int) := by omega
              clear hs ez by2 bz2 hj
              go_wp2_with fail
              go_quiet (fail)
              go_wp2_with fail
              refine ⟨⟨k + 1, by omega, rfl, below_drewN hbw _⟩, by simp [intOf]; omega⟩
          · go_wp2_with fail
            go_ret
            exact ⟨rfl, bel_trans B7 hbw⟩
end Go.Proofs.Ytchneiefjjcccaa
