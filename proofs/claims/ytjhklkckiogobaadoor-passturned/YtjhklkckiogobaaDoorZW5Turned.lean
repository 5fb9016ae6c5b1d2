/-
  The walk of PassTurned.
-/
import Derived.Test.YtjhklkckiogobaaDoorZShown5
import Derived.Test.YtjhklkckiogobaaDoorZMark
import Derived.Test.YtjhklkckiogobaaDoorZBytes
namespace Go.Proofs.YtjhklkckiogobaaDoor
set_option maxRecDepth 100000
open Go.RowKit
set_option linter.unusedVariables false
attribute [local go_sem] ba_size ba_get ba_extract ba_append
theorem OwnB.set {w : World} {base : Nat} {e : TypeId} {g n cap : Nat} {l : List UInt8} (h : OwnB w base e (.slice (some ⟨g, 0, none⟩) n cap) n (Lib.byteCells l)) (m : Nat) (x : UInt8) : OwnB (w.setCell ⟨g, m, none⟩ (.int .u8 (x.toNat : Int))) base e (.slice (some ⟨g, 0, none⟩) n cap) n (Lib.byteCells (l.set m x)) := by
  obtain ⟨h1, g', cap', cur, fz, hv, hbg, hg, hfz, hn, hcm, hcs, htake⟩ := h
  obtain ⟨rfl, rfl⟩ : g = g' ∧ cap = cap' := by simpa using hv
  have hh : (w.setCell ⟨g, m, none⟩ (.int .u8 (x.toNat : Int))).heap[g]? = some (.cells (cur.setIfInBounds m (.int .u8 (x.toNat : Int))) e fz) := by
    simp [World.setCell, Array.getElem?_modify, hg]
  refine ⟨by simpa [Lib.byteCells] using h1, g, cap, _, fz, rfl, hbg, hh, ?_, hn, hcm, by simpa using hcs, ?_⟩
  · intro i h1 h2
    exact hfz i h1 (by simpa using h2)
  · rw [Array.toList_setIfInBounds, List.take_set, htake]
    simp [Lib.byteCells]
theorem ByteSet.cell (w : World) (s : List UInt8) (m : Nat) (h : m < s.length) : (Lib.bytesWorld w 5 ⟨s.toArray⟩).cell? ⟨w.heap.size, m, none⟩ = some (.int .u8 (s[m].toNat : Int)) := by
  rw [Lib.bytesWorld_cell w 5 _ m (by rw [ba_size]; exact h)]
  simp [List.getD, h]
theorem ByteSet.frozen (w : World) (s : List UInt8) (m : Nat) (h : m < s.length) : (Lib.bytesWorld w 5 ⟨s.toArray⟩).frozen? ⟨w.heap.size, m, none⟩ = false := by
  have hz : m < (Lib.bytesCells w 5 ⟨s.toArray⟩).size := by simp [Lib.bytesCells]; omega
  simp only [World.frozen?, Lib.bytesWorld_at_new, Bool.and_eq_false_iff, decide_eq_false_iff_not]
  omega
theorem turned_lists (k t : List UInt8) (u : Nat) (b : UInt8) (hk : mayK k) (ht : mayT t) (hu : u < 18446744073709551616) : ∃ a q : List UInt8, issueL keyL k t u = (a ++ q, 0) ∧ q.length = 32 ∧ a.length ≤ 28 ∧ (∀ i (h : i < q.length), q[i] ≠ b → checkP keyL k (a ++ q.set i b) 0 = ([], 10)) ∧ checkP keyL k (a ++ (q ++ [120])) 0 = ([], 3) ∧ checkP keyL k (a ++ q.take 31) 0 = ([], 3) := by
  have q32 := seal_32 k t u
  have m16 := saidL_len t u
  have t16 := ht.2
  refine ⟨saidL t u, sealL keyL k t u, issue_good k t u hk ht, q32, by omega, fun i hi hne => ?_, ?_, ?_⟩
  · exact check_turned keyL k t _ u 0 ht hu (by simpa using q32) (set_other _ i b hi hne)
  · exact check_odd keyL k t _ u 0 ht hu (by simp; omega)
  · exact check_odd keyL k t _ u 0 ht hu (by simp; omega)
set_option maxHeartbeats 4000000 in
theorem turned5_walk (w : World) (k : List UInt8) (lk : k.length ≤ 140737488351232) (t : List UInt8) (lt : t.length ≤ 140737488351232) (u : Nat) (hu : u < 18446744073709551616) (at' : Int) (b : UInt8) (hG : G w) :
    Calls Tryd.prog 6 #[.agg #[.string ⟨k.toArray⟩, .string ⟨t.toArray⟩, .int .u64 (u : Int), .int .i64 at', .int .u8 (b.toNat : Int)]] w fun e w' => e = .returned (.bool true) ∧ Below w.heap.size w w' := by
  have hg3 := hG.size
  have HSh : Hid (∀ W, Below w.heap.size w W → Calls Tryd.prog 10 #[] W fun e w' => e = .returned (.bool true) ∧ Below W.heap.size W w') := fun W h => shown5_any W (hG.below h hg3)
  have al : ∀ o, Below w.heap.size w (w.alloc o) := fun o => (Below.refl _ w).alloc (Nat.le_refl _) o
  have HI : Hid (∀ W, Below w.heap.size w W → Calls Tryd.prog 11 #[.string ⟨k.toArray⟩, .string ⟨t.toArray⟩, .int .u64 (u : Int)] W fun e w' => e = .returned (.tuple #[.string ⟨(issueL keyL k t u).1.toArray⟩, .int .i64 ((issueL keyL k t u).2 : Int)]) ∧ Below W.heap.size W w') := fun W h => issue5_any k t u hu W (hG.below h hg3)
  by_cases hm : mayK k ∧ mayT t
  · obtain ⟨a, q, hI, q32, a28, C1, C2, C3⟩ := turned_lists k t u b hm.1 hm.2 hu
    rw [hI] at HI
    clear hI hm
    have HK := fun (s : List UInt8) (hs : s.length ≤ 1000) => fun W (h : Below w.heap.size w W) => check5_any k s (by omega) 0 W (hG.below h hg3)
    obtain ⟨s, hs⟩ : ∃ s, a ++ q = s := ⟨_, rfl⟩
    have ls : s.length = a.length + 32 := by rw [← hs, List.length_append, q32]
    rw [hs] at HI
    simp only at HI
    by_cases c1 : at' < 0
    · clear C1 C2 C3 HK hs
      go_enter Tryd.func6, Tryd.ntmps6
      go_wp2_with fail
      refine (HSh.out _ (al _)).mono ?_
      rintro e w1 ⟨rfl, b1⟩
      have B1 := bel_trans (al _) b1
      go_wp2_with fail
      refine (HI.out w1 B1).mono ?_
      rintro e w2 ⟨rfl, b2⟩
      have B2 := bel_trans B1 b2
      go_wp2_with fail
      go_ret
      exact ⟨rfl, B2⟩
    · by_cases c2 : 32 ≤ at'
      · clear C1 C2 C3 HK hs
        go_enter Tryd.func6, Tryd.ntmps6
        go_wp2_with fail
        refine (HSh.out _ (al _)).mono ?_
        rintro e w1 ⟨rfl, b1⟩
        have B1 := bel_trans (al _) b1
        go_wp2_with fail
        refine (HI.out w1 B1).mono ?_
        rintro e w2 ⟨rfl, b2⟩
        have B2 := bel_trans B1 b2
        go_wp2_with fail
        go_ret
        exact ⟨rfl, B2⟩
      · obtain ⟨i, rfl⟩ : ∃ i : Nat, at' = (i : Int) := ⟨at'.toNat, by omega⟩
        have hi : i < 32 := by omega
        have hx : a.length + i < s.length := by omega
        have hq : i < q.length := by omega
        have e1 : s[a.length + i] = q[i] := by simp only [← hs]; rw [List.getElem_append_right (by omega)]; simp
        obtain ⟨m, hm⟩ : ∃ m, a.length + i = m := ⟨_, rfl⟩
        obtain ⟨n, hn⟩ : ∃ n, s.length = n := ⟨_, rfl⟩
        have HN : Hid (s.length = n) := hn
        have hmn : m < n := by omega
        have hms : m < s.length := by omega
        have w1 : (n : Int) - 32 = (a.length : Int) := by omega
        have w2 : (a.length : Int) + (i : Int) = (m : Int) := by omega
        have f1 : ¬ (n : Int) < 32 := by omega
        have f2 : ¬ (i : Int) < 0 := by omega
        have f3 : ¬ (32 : Int) ≤ (i : Int) := by omega
        obtain ⟨y, hy⟩ : ∃ y, s[m] = y := ⟨_, rfl⟩
        have HY : Hid (s[m] = y) := hy
        have eyq : y = q[i] := by rw [← hy, ← e1]; simp only [hm]
        by_cases c3 : q[i] = b
        · obtain rfl : y = b := by rw [eyq, c3]
          have c4 : ((y.toNat : Int) == (y.toNat : Int)) = true := beq_self_eq_true _
          clear C1 C2 C3 HK hs e1 c3 eyq c2 c1 ls hx hm HN
          go_enter Tryd.func6, Tryd.ntmps6
          go_wp2_with fail
          refine (HSh.out _ (al _)).mono ?_
          rintro e w1 ⟨rfl, b1⟩
          have B1 := bel_trans (al _) b1
          go_wp2_with fail
          refine (HI.out w1 B1).mono ?_
          rintro e w2 ⟨rfl, b2⟩
          have B2 := bel_trans B1 b2
          go_wp2_with fail
          go_ret
          exact ⟨rfl, B2⟩
        · have c4 : ((y.toNat : Int) == (b.toNat : Int)) = false := by
            rw [beq_eq_false_iff_ne]
            intro h
            apply c3
            rw [← eyq]
            exact UInt8.toNat_inj.1 (by omega)
          have D1 := C1 i hq c3
          rw [show a ++ q.set i b = s.set m b by rw [← hs, ← hm, List.set_append_right _ _ (by omega)]; simp] at D1
          rw [show a ++ (q ++ [120]) = s ++ [120] by rw [← hs, List.append_assoc]] at C2
          rw [show a ++ q.take 31 = s.take (n - 1) by rw [← hs, List.take_append, List.take_of_length_le (l := a) (by omega), show n - 1 - a.length = 31 by omega]] at C3
          have K1 := HK (s.set m b) (by simp; omega)
          have K2 := HK (s ++ [120]) (by simp; omega)
          have K3 := HK (s.take (n - 1)) (by simp; omega)
          rw [D1] at K1
          rw [C2] at K2
          rw [C3] at K3
          have H1 : Hid (∀ W, Below w.heap.size w W → Calls Tryd.prog 16 #[.string ⟨k.toArray⟩, .string ⟨(s.set m b).toArray⟩, .int .u64 0] W fun e w' => e = .returned (.tuple #[.string ⟨#[]⟩, .int .i64 10]) ∧ Below W.heap.size W w') := K1
          have H2 : Hid (∀ W, Below w.heap.size w W → Calls Tryd.prog 16 #[.string ⟨k.toArray⟩, .string ⟨(s ++ [120]).toArray⟩, .int .u64 0] W fun e w' => e = .returned (.tuple #[.string ⟨#[]⟩, .int .i64 3]) ∧ Below W.heap.size W w') := K2
          have H3 : Hid (∀ W, Below w.heap.size w W → Calls Tryd.prog 16 #[.string ⟨k.toArray⟩, .string ⟨(s.take (n - 1)).toArray⟩, .int .u64 0] W fun e w' => e = .returned (.tuple #[.string ⟨#[]⟩, .int .i64 3]) ∧ Below W.heap.size W w') := K3
          have hcv := fun W => Lib.run_convert_string_bytes (P := Tryd.prog) W 9 43 5 ⟨s.toArray⟩ Tryd.underlying9 Tryd.underlying43 Tryd.underlying5
          have s1 : n + 1 ≤ 9223372036854775807 := by omega
          have s2 : (n : Int) - 1 = ((n - 1 : Nat) : Int) := by omega
          have s3 : n - 1 ≤ n := by omega
          clear C1 C2 C3 HK K1 K2 K3 D1 hs e1 c3 eyq c2 c1 ls hx hm
          go_enter Tryd.func6, Tryd.ntmps6
          go_wp2_with fail
          refine (HSh.out _ (al _)).mono ?_
          rintro e w1 ⟨rfl, b1⟩
          have B1 := bel_trans (al _) b1
          go_wp2_with fail
          refine (HI.out w1 B1).mono ?_
          rintro e w2 ⟨rfl, b2⟩
          have B2 := bel_trans B1 b2
          have hcv2 := hcv w2
          have cel := ByteSet.cell w2 s m (by have := HN.out; omega)
          rw [HY.out] at cel
          have fro := ByteSet.frozen w2 s m (by have := HN.out; omega)
          have own0 := ownB_of_bytes w2 5 ⟨s.toArray⟩ (by rw [ba_size]; unfold maxLen; have := HN.out; omega)
          rw [strCells_list] at own0
          rw [ba_size, hn] at hcv2 own0
          have hst := (own0.set m b).string (P := Tryd.prog) 43 9 Tryd.underlying43 Tryd.underlying5 Tryd.underlying9
          have BB := (bel_trans B2 (bytesWorld_bel w2 5 ⟨s.toArray⟩)).setCell (p := ⟨w2.heap.size, m, none⟩) B2.size (.int .u8 (b.toNat : Int))
          clear hcv own0
          go_wp2_with fail
          refine (H1.out _ BB).mono ?_
          rintro e w3 ⟨rfl, b3⟩
          have B3 := bel_trans BB b3
          go_wp2_with fail
          refine (H2.out _ B3).mono ?_
          rintro e w4 ⟨rfl, b4⟩
          have B4 := bel_trans B3 b4
          go_wp2_with fail
          refine (H3.out _ B4).mono ?_
          rintro e w5 ⟨rfl, b5⟩
          have B5 := bel_trans B4 b5
          go_wp2_with fail
          go_ret
          exact ⟨rfl, B5⟩
  · rw [issue_bad k t u hm] at HI
    clear hm
    go_enter Tryd.func6, Tryd.ntmps6
    go_wp2_with fail
    refine (HSh.out _ (al _)).mono ?_
    rintro e w1 ⟨rfl, b1⟩
    have B1 := bel_trans (al _) b1
    go_wp2_with fail
    refine (HI.out w1 B1).mono ?_
    rintro e w2 ⟨rfl, b2⟩
    have B2 := bel_trans B1 b2
    go_wp2_with fail
    go_ret
    exact ⟨rfl, B2⟩
end Go.Proofs.YtjhklkckiogobaaDoor
