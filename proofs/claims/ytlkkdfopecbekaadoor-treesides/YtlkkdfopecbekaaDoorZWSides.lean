/-
  The walk of TreeSides.
-/
import Derived.Test.YtlkkdfopecbekaaDoorZShown3
import Derived.Test.YtlkkdfopecbekaaDoorGA
namespace Go.Proofs.YtlkkdfopecbekaaDoor
set_option maxRecDepth 100000
open Go.RowKit
set_option linter.unusedVariables false
attribute [local go_sem] ba_size
theorem pow_dbl (s : Nat) : 2 ^ s + 2 ^ s = 2 ^ (s + 1) := by rw [Nat.pow_succ]; omega
set_option maxHeartbeats 2000000 in
theorem sides_walk (w : World) (v : Value) (l : List (List UInt8)) (hT : IsTxt w v l) (hB : ∀ s ∈ l, s.length ≤ 140737488351232) (i : Int) (hG : G w) :
    Calls Tryd.prog 10 #[v, .int .i64 i] w fun e w' => e = .returned (.bool true) ∧ Below w.heap.size w w' := by
  have hg3 := hG.size
  have hSh := shown3_any w hG
  have HFw : Hid (∀ W, Below w.heap.size w W → Calls Tryd.prog 13 #[v] W fun e w' => e = .returned (.bool (fewL l)) ∧ Below W.heap.size W w') := fun W h => few_any l v W (hT.below h)
  have HPB : Hid (∀ W, Below w.heap.size w W → 4096 < l.length → Calls Tryd.prog 16 #[v, .int .i64 i] W fun e w' => e = .returned (.tuple #[.slice none 0 0, .int .i64 4]) ∧ Below W.heap.size W w') := fun W h hb => ppath_big l v i W (hT.below h) hb
  have HPN : Hid (∀ W, Below w.heap.size w W → l.length ≤ 4096 → (i < 0 ∨ (l.length : Int) ≤ i) → Calls Tryd.prog 16 #[v, .int .i64 i] W fun e w' => e = .returned (.tuple #[.slice none 0 0, .int .i64 1]) ∧ Below W.heap.size W w') := fun W h hb hi => ppath_bad l v i W (hT.below h) hb hi
  by_cases hb : 4096 < l.length
  · have hf' : fewL l = false := by
      cases hf : fewL l with
      | false => rfl
      | true => have := fewL_len hf; omega
    rw [hf'] at HFw
    obtain ⟨a, cap, rfl, hc1, hc2, hn⟩ := hT.len
    clear hT hB hf' HPN
    go_enter Tryd.func10, Tryd.ntmps10
    go_wp2_with fail
    refine hSh.mono ?_
    rintro e w1 ⟨rfl, B1⟩
    go_wp2_with fail
    refine (HFw.out w1 B1).mono ?_
    rintro e w2 ⟨rfl, b2⟩
    have B2 := bel_trans B1 b2
    go_wp2_with fail
    refine (HPB.out w2 B2 hb).mono ?_
    rintro e w3 ⟨rfl, b3⟩
    have B3 := bel_trans B2 b3
    go_wp2_with fail
    go_ret
    exact ⟨rfl, B3⟩
  · by_cases hi : i < 0 ∨ (l.length : Int) ≤ i
    · obtain ⟨a, cap, rfl, hc1, hc2, hn⟩ := hT.len
      clear hT hB HPB
      cases hf : fewL l with
      | false =>
        rw [hf] at HFw
        clear hf
        go_enter Tryd.func10, Tryd.ntmps10
        go_wp2_with fail
        refine hSh.mono ?_
        rintro e w1 ⟨rfl, B1⟩
        go_wp2_with fail
        refine (HFw.out w1 B1).mono ?_
        rintro e w2 ⟨rfl, b2⟩
        have B2 := bel_trans B1 b2
        go_wp2_with fail
        refine (HPN.out w2 B2 (by omega) hi).mono ?_
        rintro e w3 ⟨rfl, b3⟩
        have B3 := bel_trans B2 b3
        go_wp2_with fail
        go_ret
        exact ⟨rfl, B3⟩
      | true =>
        rw [hf] at HFw
        clear hf
        by_cases h0 : i < 0
        · go_enter Tryd.func10, Tryd.ntmps10
          go_wp2_with fail
          refine hSh.mono ?_
          rintro e w1 ⟨rfl, B1⟩
          go_wp2_with fail
          refine (HFw.out w1 B1).mono ?_
          rintro e w2 ⟨rfl, b2⟩
          have B2 := bel_trans B1 b2
          go_wp2_with fail
          refine (HPN.out w2 B2 (by omega) hi).mono ?_
          rintro e w3 ⟨rfl, b3⟩
          have B3 := bel_trans B2 b3
          go_wp2_with fail
          go_ret
          exact ⟨rfl, B3⟩
        · have j1 : (l.length : Int) ≤ i := by omega
          go_enter Tryd.func10, Tryd.ntmps10
          go_wp2_with fail
          refine hSh.mono ?_
          rintro e w1 ⟨rfl, B1⟩
          go_wp2_with fail
          refine (HFw.out w1 B1).mono ?_
          rintro e w2 ⟨rfl, b2⟩
          have B2 := bel_trans B1 b2
          go_wp2_with fail
          refine (HPN.out w2 B2 (by omega) (Or.inr j1)).mono ?_
          rintro e w3 ⟨rfl, b3⟩
          have B3 := bel_trans B2 b3
          go_wp2_with fail
          go_ret
          exact ⟨rfl, B3⟩
    · obtain ⟨I, rfl⟩ : ∃ I : Nat, i = I := ⟨i.toNat, by omega⟩
      have hI : I < l.length := by omega
      have HP : Hid (∀ W, Below w.heap.size w W → Calls Tryd.prog 16 #[v, .int .i64 I] W fun e w' => ∃ p, e = .returned (.tuple #[p, .int .i64 0]) ∧ w'.ownsRow W.heap.size 9 1 p (pathL sumL l I).length (strV (pathL sumL l I)) ∧ Below W.heap.size W w') := fun W h => ppath_any l v I W (hG.below h hg3) (hT.below h) (by omega) hI
      have hp32 := pathL_32 sumL sumL_len32 l.length l I rfl hI
      have HSd : Hid (∀ s, l.length ≤ 2 ^ s → (pathL sumL l I).length ≤ s) := fun s h => pathL_sides sumL s l I h
      have hpl := pathL_sides sumL 12 l I (by omega)
      have HP0 : Hid (2 ≤ l.length → 0 < (pathL sumL l I).length) := fun h => pathL_pos sumL l I h
      have HP1 : Hid (l.length ≤ 1 → (pathL sumL l I).length = 0) := fun h => by rw [pathL_one sumL l I h]; rfl
      obtain ⟨a, cap, rfl, hc1, hc2, hn⟩ := hT.len
      obtain ⟨P, hP⟩ : ∃ P, pathL sumL l I = P := ⟨_, rfl⟩
      rw [hP] at HP hp32 hpl HSd HP0 HP1
      have HP32 : Hid (∀ x ∈ P, x.length = 32) := hp32
      clear hP hp32 HPB HPN
      cases hf : fewL l with
      | false =>
        rw [hf] at HFw
        clear hf hT hB
        go_enter Tryd.func10, Tryd.ntmps10
        go_wp2_with fail
        refine hSh.mono ?_
        rintro e w1 ⟨rfl, B1⟩
        go_wp2_with fail
        refine (HFw.out w1 B1).mono ?_
        rintro e w2 ⟨rfl, b2⟩
        have B2 := bel_trans B1 b2
        go_wp2_with fail
        refine (HP.out w2 B2).mono ?_
        rintro e w3 ⟨p, rfl, own, b3⟩
        have B3 := bel_trans B2 b3
        go_wp2_with fail
        go_ret
        exact ⟨rfl, B3⟩
      | true =>
        have hl := fewL_len hf
        rw [hf] at HFw
        clear hf hT hB
        obtain ⟨d, hd⟩ : ∃ d, l.length = d := ⟨_, rfl⟩
        simp only [hd] at hl hI hb hi HSd HP0 HP1 hc1 hn ⊢
        rw [hd] at HFw HP
        clear hd
        go_enter Tryd.func10, Tryd.ntmps10
        go_wp2_with fail
        refine hSh.mono ?_
        rintro e w1 ⟨rfl, B1⟩
        go_wp2_with fail
        refine (HFw.out w1 B1).mono ?_
        rintro e w2 ⟨rfl, b2⟩
        have B2 := bel_trans B1 b2
        go_wp2_with fail
        refine (HP.out w2 B2).mono ?_
        rintro e w3 ⟨p, rfl, own, b3⟩
        have B3 := bel_trans B2 b3
        have TP : IsTxt w3 p P := IsTxt.own own (by omega) (fun t ht => by have := HP32.out t ht; omega)
        obtain ⟨pa, pc, rfl, pc1, pc2, pn, PC⟩ := TP.some_at
        obtain ⟨q, hq⟩ : ∃ q, P.length = q := ⟨_, rfl⟩
        have HQ : Hid (P.length = q) := hq
        simp only [hq] at hpl HSd HP0 HP1 pc1 pn ⊢
        clear hq own TP
        go_wp2_with fail
        go_loop [9] (fun j => ∃ k : Nat, k ≤ q ∧ j = .int .i64 k) (fun j => q - (intOf j).toNat)
        case atStart => exact ⟨0, Nat.zero_le _, rfl⟩
        case round =>
          obtain ⟨k, hk, rfl⟩ := hrel
          by_cases hkl : k < q
          · have hkP : k < P.length := by have := HQ.out; omega
            obtain ⟨g, go, rfl, hglt, c0⟩ := PC.out k hkP
            have h32 := HP32.out _ (List.getElem_mem hkP)
            obtain ⟨x, hx⟩ : ∃ x, P[k]'hkP = x := ⟨_, rfl⟩
            rw [hx] at c0 h32
            clear hx
            have j0 : (k : Int) < (q : Int) := by omega
            have j1 : ((x.length : Int) == 32) = true := by rw [h32]; rfl
            have x1 : IntKind.i64.wrap ((k : Int) + 1) = (k : Int) + 1 := by rw [IntKind.wrap_i64]; omega
            clear h32
            go_wp2_with fail
            refine ⟨?relA, ?measureA⟩
            case relA => exact ⟨k + 1, by omega, by first | rfl | go_num⟩
            case measureA => simp [intOf]; omega
          · have j0 : ¬ (k : Int) < (q : Int) := by omega
            go_wp2_with fail
            go_loop [10, 11] (fun a s => ∃ m : Nat, a = .int .i64 ((2 ^ m : Nat) : Int) ∧ s = .int .i64 (m : Int) ∧ 2 ^ m < 2 * d + 2 ∧ m ≤ 2 ^ m) (fun a _ => 2 * d + 2 - (intOf a).toNat)
            case atStart => exact ⟨0, rfl, rfl, by omega, by omega⟩
            case round =>
              obtain ⟨m, rfl, rfl, hm, hmm⟩ := hrel
              obtain ⟨e2, he2⟩ : ∃ e2, 2 ^ m = e2 := ⟨_, rfl⟩
              have hdb := pow_dbl m
              rw [he2] at hm hmm hdb
              have HDB : Hid (e2 + e2 = 2 ^ (m + 1)) := hdb
              have HE2 : Hid (2 ^ m = e2) := he2
              have hpos : 1 ≤ e2 := by rw [← he2]; exact Nat.one_le_two_pow
              rw [he2]
              clear hdb he2
              by_cases hlt : e2 < d
              · have k0 : (e2 : Int) < (d : Int) := by omega
                have x1 : IntKind.i64.wrap ((e2 : Int) + (e2 : Int)) = (e2 : Int) + (e2 : Int) := by rw [IntKind.wrap_i64]; omega
                have x2 : IntKind.i64.wrap ((m : Int) + 1) = (m : Int) + 1 := by rw [IntKind.wrap_i64]; omega
                go_wp2_with fail
                refine ⟨?relB, ?measureB⟩
                case relB => exact ⟨m + 1, by rw [← HDB.out]; rfl, rfl, by rw [← HDB.out]; omega, by rw [← HDB.out]; omega⟩
                case measureB => simp [intOf]; omega
              · have k0 : ¬ (e2 : Int) < (d : Int) := by omega
                have hqs : q ≤ m := HSd.out m (by rw [HE2.out]; omega)
                have k1 : (q : Int) ≤ (m : Int) := by omega
                by_cases hd1 : d ≤ 1
                · have hq0 := HP1.out hd1
                  have k2 : ¬ (1 : Int) < (d : Int) := by omega
                  have k3 : ((q : Int) == 0) = true := by rw [hq0]; rfl
                  have k4 : (d : Int) < 2 := by omega
                  clear hq0
                  go_wp2_with fail
                  go_ret
                  exact ⟨rfl, B3⟩
                · have hq0 := HP0.out (by omega)
                  have k2 : (1 : Int) < (d : Int) := by omega
                  have k3 : (0 : Int) < (q : Int) := by omega
                  have k4 : ¬ (d : Int) < 2 := by omega
                  go_wp2_with fail
                  go_ret
                  exact ⟨rfl, B3⟩
end Go.Proofs.YtlkkdfopecbekaaDoor
