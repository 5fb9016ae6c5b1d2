/-
  The walk of TreeProves.
-/
import Derived.Test.YtlkkdfopecbekaaDoorZShown3
import Derived.Test.YtlkkdfopecbekaaDoorZP3Check
import Derived.Test.YtlkkdfopecbekaaDoorGA
namespace Go.Proofs.YtlkkdfopecbekaaDoor
set_option maxRecDepth 100000
open Go.RowKit
set_option linter.unusedVariables false
attribute [local go_sem] ba_size
set_option maxHeartbeats 2000000 in
theorem proves_walk (w : World) (v : Value) (l : List (List UInt8)) (hT : IsTxt w v l) (hB : ∀ s ∈ l, s.length ≤ 140737488351232) (i : Int) (hG : G w) :
    Calls Tryd.prog 6 #[v, .int .i64 i] w fun e w' => e = .returned (.bool true) ∧ Below w.heap.size w w' := by
  have hg3 := hG.size
  have hSh := shown3_any w hG
  have HFw : Hid (∀ W, Below w.heap.size w W → Calls Tryd.prog 13 #[v] W fun e w' => e = .returned (.bool (fewL l)) ∧ Below W.heap.size W w') := fun W h => few_any l v W (hT.below h)
  have HRB : Hid (∀ W, Below w.heap.size w W → 4096 < l.length → Calls Tryd.prog 14 #[v] W fun e w' => e = .returned (.tuple #[.string ⟨#[]⟩, .int .i64 4]) ∧ Below W.heap.size W w') := fun W h hb => proot_big l v W (hT.below h) hb
  have HRA : Hid (∀ W, Below w.heap.size w W → l.length ≤ 4096 → Calls Tryd.prog 14 #[v] W fun e w' => e = .returned (.tuple #[.string ⟨(rootL sumL l).toArray⟩, .int .i64 0]) ∧ Below W.heap.size W w') := fun W h hb => proot_any l v W (hG.below h hg3) (hT.below h) hb
  by_cases hf : fewL l = true
  · have hl := fewL_len hf
    rw [hf] at HFw
    by_cases hi : 0 ≤ i ∧ i < (l.length : Int)
    · obtain ⟨I, rfl⟩ : ∃ I : Nat, i = I := ⟨i.toNat, by omega⟩
      have hI : I < l.length := by omega
      have HP : Hid (∀ W, Below w.heap.size w W → Calls Tryd.prog 16 #[v, .int .i64 I] W fun e w' => ∃ p, e = .returned (.tuple #[p, .int .i64 0]) ∧ w'.ownsRow W.heap.size 9 1 p (pathL sumL l I).length (strV (pathL sumL l I)) ∧ Below W.heap.size W w') := fun W h => ppath_any l v I W (hG.below h hg3) (hT.below h) (by omega) hI
      have hC := check_path sumL sumL_len32 l (by omega) I hI
      have hp32 := pathL_32 sumL sumL_len32 l.length l I rfl hI
      have hpl := pathL_sides sumL 12 l I (by omega)
      have HCk : Hid (∀ W p, G W → IsTxt W p (pathL sumL l I) → Calls Tryd.prog 25 #[.string ⟨(rootL sumL l).toArray⟩, .int .i64 l.length, .int .i64 I, .string ⟨(l[I]'hI).toArray⟩, p] W fun e w' => e = .returned (.int .i64 0) ∧ Below W.heap.size W w') := fun W p hGW hp => by
        have := pcheck_any (rootL sumL l) l.length I (l[I]'hI) (by have := hB _ (List.getElem_mem hI); omega) _ p W hGW hp
        rw [hC] at this
        exact this
      obtain ⟨b, off, cap, rfl, hblt, hc1, hc2, hn, HC⟩ := hT.at (by omega)
      have c0 : w.cell? ⟨b, off + I, none⟩ = some (.string ⟨(l[I]'hI).toArray⟩) := HC.out I hI
      obtain ⟨x, hx⟩ : ∃ x, l[I]'hI = x := ⟨_, rfl⟩
      obtain ⟨R, hR⟩ : ∃ R, rootL sumL l = R := ⟨_, rfl⟩
      obtain ⟨P, hP⟩ : ∃ P, pathL sumL l I = P := ⟨_, rfl⟩
      rw [hx] at HCk c0
      rw [hR] at HRA HCk
      rw [hP] at HP HCk hp32 hpl
      have HP32 : Hid (∀ x ∈ P, x.length = 32) := hp32
      have j0 : ¬ (I : Int) < 0 := by omega
      have j1 : ¬ (l.length : Int) ≤ (I : Int) := by omega
      have j2 : (I : Int) < (l.length : Int) := by omega
      clear hC hx hR hP HC hT hB hf HRB hi hp32
      go_enter Tryd.func6, Tryd.ntmps6
      go_wp2_with fail
      refine hSh.mono ?_
      rintro e w1 ⟨rfl, B1⟩
      go_wp2_with fail
      refine (HFw.out w1 B1).mono ?_
      rintro e w2 ⟨rfl, b2⟩
      have B2 := bel_trans B1 b2
      go_wp2_with fail
      refine (HRA.out w2 B2 (by omega)).mono ?_
      rintro e w3 ⟨rfl, b3⟩
      have B3 := bel_trans B2 b3
      go_wp2_with fail
      refine (HP.out w3 B3).mono ?_
      rintro e w4 ⟨p, rfl, own, b4⟩
      have B4 := bel_trans B3 b4
      have c4 := (B4.cell (p := ⟨b, off + I, none⟩) hblt).trans c0
      have TP : IsTxt w4 p P := IsTxt.own own (by omega) (fun t ht => by have := HP32.out t ht; omega)
      go_wp2_with fail
      refine (HCk.out w4 p (hG.below B4 hg3) TP).mono ?_
      rintro e w5 ⟨rfl, b5⟩
      go_wp2_with fail
      go_ret
      exact ⟨rfl, bel_trans B4 b5⟩
    · obtain ⟨a, cap, rfl, hc1, hc2, hn⟩ := hT.len
      clear hT hB HRB
      by_cases h0 : i < 0
      · go_enter Tryd.func6, Tryd.ntmps6
        go_wp2_with fail
        refine hSh.mono ?_
        rintro e w1 ⟨rfl, B1⟩
        go_wp2_with fail
        refine (HFw.out w1 B1).mono ?_
        rintro e w2 ⟨rfl, b2⟩
        have B2 := bel_trans B1 b2
        go_wp2_with fail
        refine (HRA.out w2 B2 (by omega)).mono ?_
        rintro e w3 ⟨rfl, b3⟩
        have B3 := bel_trans B2 b3
        go_wp2_with fail
        go_ret
        exact ⟨rfl, B3⟩
      · have j1 : (l.length : Int) ≤ i := by omega
        go_enter Tryd.func6, Tryd.ntmps6
        go_wp2_with fail
        refine hSh.mono ?_
        rintro e w1 ⟨rfl, B1⟩
        go_wp2_with fail
        refine (HFw.out w1 B1).mono ?_
        rintro e w2 ⟨rfl, b2⟩
        have B2 := bel_trans B1 b2
        go_wp2_with fail
        refine (HRA.out w2 B2 (by omega)).mono ?_
        rintro e w3 ⟨rfl, b3⟩
        have B3 := bel_trans B2 b3
        go_wp2_with fail
        go_ret
        exact ⟨rfl, B3⟩
  · have hf' : fewL l = false := by simpa using hf
    rw [hf'] at HFw
    obtain ⟨a, cap, rfl, hc1, hc2, hn⟩ := hT.len
    clear hT hB hf hf'
    by_cases hb : 4096 < l.length
    · go_enter Tryd.func6, Tryd.ntmps6
      go_wp2_with fail
      refine hSh.mono ?_
      rintro e w1 ⟨rfl, B1⟩
      go_wp2_with fail
      refine (HFw.out w1 B1).mono ?_
      rintro e w2 ⟨rfl, b2⟩
      have B2 := bel_trans B1 b2
      go_wp2_with fail
      refine (HRB.out w2 B2 hb).mono ?_
      rintro e w3 ⟨rfl, b3⟩
      have B3 := bel_trans B2 b3
      go_wp2_with fail
      go_ret
      exact ⟨rfl, B3⟩
    · go_enter Tryd.func6, Tryd.ntmps6
      go_wp2_with fail
      refine hSh.mono ?_
      rintro e w1 ⟨rfl, B1⟩
      go_wp2_with fail
      refine (HFw.out w1 B1).mono ?_
      rintro e w2 ⟨rfl, b2⟩
      have B2 := bel_trans B1 b2
      go_wp2_with fail
      refine (HRA.out w2 B2 (by omega)).mono ?_
      rintro e w3 ⟨rfl, b3⟩
      have B3 := bel_trans B2 b3
      go_wp2_with fail
      go_ret
      exact ⟨rfl, B3⟩
end Go.Proofs.YtlkkdfopecbekaaDoor
