/-
  The library's Compact of numbers, at this program (by the shelf's own table).
  The library's sort of numbers, at this program: which of its functions and types are which (by the shelf's own table).
  A heap of numbers in a row, as container/heap keeps it: in lists, of no program.
  The heap of numbers that ring.Order keeps: its row's methods.
  The heap of numbers that ring.Order keeps: a number put behind its row, the last one taken off.
  Rows of numbers, cloned, sorted and made compact by the library.
-/
import Derived.Test.YtpfpkpaodlmlaaaProg
import Derived.Shelf.Slices.CompactI
import Derived.Shelf.Sort.Plain
import Derived.Shelf.Slices.In.SortNone
import Derived.Test.YtpfpkpaodlmlaaaGA
import Derived.Test.YtpfpkpaodlmlaaaGG
import Derived.Test.YtpfpkpaodlmlaaaGC
import Derived.Test.YtpfpkpaodlmlaaaGD
import Derived.Lib.Hide
import Derived.BigQuiet
import Derived.BigRegion
import Derived.RegionTactic
import Derived.Deep.QuietTactic
import Derived.Test.YtpfpkpaodlmlaaaGE
import Derived.Maps.AppendAt
import Derived.Test.YtpfpkpaodlmlaaaGF
import Derived.Sort.OwnSortedInts
import Derived.Lib.SliceRun
import Derived.Laws.AppendOwnNone
namespace Go.Proofs.Ytpfpkpaodlmlaaa
set_option maxRecDepth 100000
open Go.Shelf
def lays20I_ren : Go.Shelf.Ren := ⟨fun | 20 => 44 | n => n, fun | 22 => 22 | 0 => 0 | 3 => 3 | 4 => 4 | n => n, fun | n => n⟩
theorem lays20I : Go.Proofs.Lays2.n20 Try.prog lays20I_ren := {
  mixed := by kernel_rfl
  f20 := Try.func44.trans (congrArg some (by kernel_rfl))
  t0 := Try.underlying0
  a0 := Try.isAgg0
  z0 := Try.sizeOf0
  v0 := Try.zeroValue0
  t3 := Try.underlying3
  a3 := Try.isAgg3
  z3 := Try.sizeOf3
  v3 := Try.zeroValue3
  t4 := Try.underlying4
  a4 := Try.isAgg4
  z4 := Try.sizeOf4
  v4 := Try.zeroValue4
  t22 := Try.underlying22
  a22 := Try.isAgg22
  z22 := Try.sizeOf22
  v22 := Try.zeroValue22
  i3 := by kernel_rfl }
theorem pcompI_any (blk off cap : Nat) (zs : List Int) (w : World) (hH : Go.Sort.Holds (Value.int .i64) w blk off zs.toArray) (hsz : zs.length ≤ 9223372036854775807) (hcap : zs.length ≤ cap) :
    Calls Try.prog 44 #[.slice (some ⟨blk, off, none⟩) zs.length cap] w fun e w' => e = .returned (.slice (some ⟨blk, off, none⟩) (Lib.compact zs).length cap) ∧ ∃ q, w' = Go.Sort.putRow (Value.int .i64) (Sort.ahead w q) blk off (Lib.compact zs ++ List.replicate (zs.length - (Lib.compact zs).length) 0).toArray :=
  Any.slices_Compact_int lays20I blk off cap zs w hH hsz hcap
theorem pcompI_none (a : Option Addr) (cap : Nat) (w : World) : Calls Try.prog 44 #[.slice a 0 cap] w fun e w' => e = .returned (.slice a 0 cap) ∧ w' = w :=
  Any.slices_Compact_int_empty lays20I a cap w
end Go.Proofs.Ytpfpkpaodlmlaaa
namespace Go.Proofs.Ytpfpkpaodlmlaaa
set_option maxRecDepth 100000
open Go.Shelf
def lays189I_ren : Go.Shelf.Ren := ⟨fun | 189 => 43 | 125 => 53 | 257 => 52 | 128 => 65 | 129 => 66 | 294 => 56 | 295 => 57 | 296 => 58 | 297 => 59 | 298 => 60 | 299 => 61 | 216 => 62 | 300 => 63 | 301 => 64 | 328 => 67 | 329 => 68 | 330 => 69 | 331 => 70 | 332 => 71 | 215 => 72 | 343 => 73 | n => n, fun | 28 => 22 | 9 => 9 | 3 => 3 | 46 => 80 | 0 => 0 | 51 => 96 | 53 => 98 | 4 => 4 | 183 => 89 | 182 => 88 | 131 => 57 | 5 => 5 | 218 => 99 | 222 => 103 | 228 => 105 | 229 => 106 | n => n, fun | n => n⟩
theorem lays189I : Go.Proofs.Lays.n189 Try.prog lays189I_ren := {
  mixed := by kernel_rfl
  f125 := Try.func53.trans (congrArg some (by kernel_rfl))
  f128 := Try.func65.trans (congrArg some (by kernel_rfl))
  f129 := Try.func66.trans (congrArg some (by kernel_rfl))
  f189 := Try.func43.trans (congrArg some (by kernel_rfl))
  f257 := Try.func52.trans (congrArg some (by kernel_rfl))
  f294 := Try.func56.trans (congrArg some (by kernel_rfl))
  f295 := Try.func57.trans (congrArg some (by kernel_rfl))
  f296 := Try.func58.trans (congrArg some (by kernel_rfl))
  f297 := Try.func59.trans (congrArg some (by kernel_rfl))
  f298 := Try.func60.trans (congrArg some (by kernel_rfl))
  f299 := Try.func61.trans (congrArg some (by kernel_rfl))
  f216 := Try.func62.trans (congrArg some (by kernel_rfl))
  f300 := Try.func63.trans (congrArg some (by kernel_rfl))
  f301 := Try.func64.trans (congrArg some (by kernel_rfl))
  f329 := Try.func68.trans (congrArg some (by kernel_rfl))
  f330 := Try.func69.trans (congrArg some (by kernel_rfl))
  f328 := Try.func67.trans (congrArg some (by kernel_rfl))
  f331 := Try.func70.trans (congrArg some (by kernel_rfl))
  f332 := Try.func71.trans (congrArg some (by kernel_rfl))
  f215 := Try.func72.trans (congrArg some (by kernel_rfl))
  f343 := Try.func73.trans (congrArg some (by kernel_rfl))
  t0 := Try.underlying0
  a0 := Try.isAgg0
  z0 := Try.sizeOf0
  v0 := Try.zeroValue0
  t3 := Try.underlying3
  a3 := Try.isAgg3
  z3 := Try.sizeOf3
  v3 := Try.zeroValue3
  t4 := Try.underlying4
  a4 := Try.isAgg4
  z4 := Try.sizeOf4
  v4 := Try.zeroValue4
  t5 := Try.underlying5
  a5 := Try.isAgg5
  z5 := Try.sizeOf5
  v5 := Try.zeroValue5
  t9 := Try.underlying9
  a9 := Try.isAgg9
  z9 := Try.sizeOf9
  v9 := Try.zeroValue9
  t28 := Try.underlying22
  a28 := Try.isAgg22
  z28 := Try.sizeOf22
  v28 := Try.zeroValue22
  t46 := Try.underlying80
  a46 := Try.isAgg80
  z46 := Try.sizeOf80
  v46 := Try.zeroValue80
  t51 := Try.underlying96
  a51 := Try.isAgg96
  z51 := Try.sizeOf96
  v51 := Try.zeroValue96
  t53 := Try.underlying98
  a53 := Try.isAgg98
  z53 := Try.sizeOf98
  v53 := Try.zeroValue98
  t131 := Try.underlying57
  a131 := Try.isAgg57
  z131 := Try.sizeOf57
  v131 := Try.zeroValue57
  t182 := Try.underlying88
  a182 := Try.isAgg88
  z182 := Try.sizeOf88
  v182 := Try.zeroValue88
  t183 := Try.underlying89
  a183 := Try.isAgg89
  z183 := Try.sizeOf89
  v183 := Try.zeroValue89
  t218 := Try.underlying99
  a218 := Try.isAgg99
  z218 := Try.sizeOf99
  v218 := Try.zeroValue99
  t222 := Try.underlying103
  a222 := Try.isAgg103
  z222 := Try.sizeOf103
  v222 := Try.zeroValue103
  t228 := Try.underlying105
  a228 := Try.isAgg105
  z228 := Try.sizeOf105
  v228 := Try.zeroValue105
  t229 := Try.underlying106
  a229 := Try.isAgg106
  z229 := Try.sizeOf106
  v229 := Try.zeroValue106 }
theorem psortI_any (blk off cap : Nat) (ss : List Int) (w : World) (hH : Go.Sort.Holds (Value.int .i64) w blk off ss.toArray) (hblk : blk < w.heap.size) (hsz : ss.length < 4611686018427387904) :
    Calls Try.prog 43 #[.slice (some ⟨blk, off, none⟩) ss.length cap] w fun e w' =>
      e = .returned (.tuple #[]) ∧ ∃ n os, w' = Go.Sort.grow (Go.Sort.putRow (Value.int .i64) (Go.Sort.ahead w n) blk off (ss.mergeSort fun x y => decide (x ≤ y)).toArray) os :=
  Any.slices_Sort_int lays189I blk off cap ss w hH hblk hsz
theorem psortI_none (p : Option Addr) (cap : Nat) (w : World) : Calls Try.prog 43 #[.slice p 0 cap] w fun e w' => e = .returned (.tuple #[]) ∧ w' = w :=
  Any.slices_Sort_int_none lays189I p cap w
end Go.Proofs.Ytpfpkpaodlmlaaa
namespace Go.Proofs.Ytpfpkpaodlmlaaa
set_option maxRecDepth 100000
set_option linter.unusedVariables false
/-- The number at a place. -/
abbrev hg (a : List Int) (k : Nat) : Int := a.getD k 0
def swL (a : List Int) (i j : Nat) : List Int := (a.set i (hg a j)).set j (hg a i)
theorem swL_len (a : List Int) (i j : Nat) : (swL a i j).length = a.length := by simp [swL]
theorem swL_at (a : List Int) (i j k : Nat) (hi : i < a.length) (hj : j < a.length) : hg (swL a i j) k = if k = j then hg a i else if k = i then hg a j else hg a k := by
  unfold swL hg
  rw [List.getD_eq_getElem?_getD, List.getElem?_set]
  by_cases h1 : k = j
  · subst h1
    simp [hj]
  · rw [if_neg (fun e => h1 e.symm), if_neg h1, List.getElem?_set]
    by_cases h2 : k = i
    · subst h2
      simp [hi]
    · rw [if_neg (fun e => h2 e.symm), if_neg h2, List.getD_eq_getElem?_getD]
theorem swL_perm (a : List Int) (i j : Nat) (hi : i < a.length) (hj : j < a.length) : (swL a i j).Perm a := by
  rw [List.perm_iff_count]
  intro x
  unfold swL
  have hj' : j < (a.set i (hg a j)).length := by simpa using hj
  rw [List.count_set hj', List.count_set hi]
  have e1 : hg a j = a[j] := by simp [hg, hj]
  have e2 : hg a i = a[i] := by simp [hg, hi]
  have hc1 : a[i] = x → 0 < a.count x := fun h => List.count_pos_iff.2 (h ▸ List.getElem_mem hi)
  have hc2 : a[j] = x → 0 < a.count x := fun h => List.count_pos_iff.2 (h ▸ List.getElem_mem hj)
  have e3 : (a.set i (hg a j))[j] = a[j] := by
    rw [List.getElem_set]
    split
    · rw [e1]
    · rfl
  rw [e3, e1, e2]
  simp only [beq_iff_eq]
  by_cases h1 : a[i] = x
  · by_cases h2 : a[j] = x
    · have := hc1 h1; simp [h1, h2]; omega
    · have := hc1 h1; simp [h1, h2]; omega
  · by_cases h2 : a[j] = x
    · have := hc2 h2; simp [h1, h2]
    · simp [h1, h2]
/-- Of the first n none is less than the one above it. -/
def HeapN (a : List Int) (n : Nat) : Prop := ∀ k, 0 < k → k < n → hg a ((k - 1) / 2) ≤ hg a k
theorem HeapN.root {a : List Int} {n : Nat} (h : HeapN a n) : ∀ k, k < n → hg a 0 ≤ hg a k := by
  intro k
  induction k using Nat.strongRecOn with
  | _ k ih =>
    intro hk
    rcases Nat.eq_zero_or_pos k with h0 | h0
    · subst h0; exact Int.le_refl _
    · have := ih ((k - 1) / 2) (by omega) (by omega)
      have := h k h0 hk
      omega
/-- .. but for place j, which may be less. -/
def UpI (a : List Int) (j n : Nat) : Prop := (∀ k, 0 < k → k < n → k ≠ j → hg a ((k - 1) / 2) ≤ hg a k) ∧ (∀ k, 0 < k → k < n → (k - 1) / 2 = j → 0 < j → hg a ((j - 1) / 2) ≤ hg a k)
theorem upI_start (a : List Int) (x : Int) (h : HeapN a a.length) : UpI (a ++ [x]) a.length (a.length + 1) := by
  have e : ∀ k, k < a.length → hg (a ++ [x]) k = hg a k := fun k hk => by unfold hg; rw [List.getD_eq_getElem?_getD, List.getElem?_append_left hk, List.getD_eq_getElem?_getD]
  refine ⟨fun k h0 hk hne => ?_, fun k h0 hk hp h1 => by omega⟩
  rw [e k (by omega), e ((k - 1) / 2) (by omega)]
  exact h k h0 (by omega)
theorem upI_zero {a : List Int} {n : Nat} (h : UpI a 0 n) : HeapN a n := fun k h0 hk => h.1 k h0 hk (by omega)
theorem upI_stop {a : List Int} {j n : Nat} (h : UpI a j n) (hle : hg a ((j - 1) / 2) ≤ hg a j) : HeapN a n := fun k h0 hk => by
  by_cases e : k = j
  · rw [e]; exact hle
  · exact h.1 k h0 hk e
theorem upI_step {a : List Int} {j n : Nat} (h : UpI a j n) (hn : n ≤ a.length) (h0 : 0 < j) (hj : j < n) (hlt : hg a j < hg a ((j - 1) / 2)) : UpI (swL a ((j - 1) / 2) j) ((j - 1) / 2) n := by
  have hi : (j - 1) / 2 < a.length := by omega
  have hj' : j < a.length := by omega
  refine ⟨fun k k0 hk hne => ?_, fun k k0 hk hp hi0 => ?_⟩
  · rw [swL_at a _ _ _ hi hj', swL_at a _ _ _ hi hj']
    by_cases e1 : k = j
    · subst e1
      rw [if_neg (by omega), if_pos rfl, if_pos rfl]
      omega
    · rw [if_neg e1, if_neg hne]
      by_cases e2 : (k - 1) / 2 = j
      · rw [if_pos e2]
        exact h.2 k k0 hk e2 h0
      · rw [if_neg e2]
        by_cases e3 : (k - 1) / 2 = (j - 1) / 2
        · rw [if_pos e3]
          have := h.1 k k0 hk e1
          rw [e3] at this
          omega
        · rw [if_neg e3]
          exact h.1 k k0 hk e1
  · have hii : hg a (((j - 1) / 2 - 1) / 2) ≤ hg a ((j - 1) / 2) := h.1 ((j - 1) / 2) hi0 (by omega) (by omega)
    rw [swL_at a _ _ _ hi hj', swL_at a _ _ _ hi hj', if_neg (by omega), if_neg (by omega)]
    by_cases e1 : k = j
    · rw [if_pos e1]; exact hii
    · rw [if_neg e1, if_neg (by omega)]
      have := h.1 k k0 hk e1
      rw [hp] at this
      omega
/-- .. but for what stands below place i. -/
def DownI (a : List Int) (i n : Nat) : Prop := (∀ k, 0 < k → k < n → (k - 1) / 2 ≠ i → hg a ((k - 1) / 2) ≤ hg a k) ∧ (∀ k, 0 < k → k < n → (k - 1) / 2 = i → 0 < i → hg a ((i - 1) / 2) ≤ hg a k)
theorem downI_start (a : List Int) (n : Nat) (hl : a.length = n + 1) (h : HeapN a (n + 1)) : DownI (swL a 0 n) 0 n := by
  refine ⟨fun k k0 hk hne => ?_, fun k _ _ _ h0 => by omega⟩
  rw [swL_at a _ _ _ (by omega) (by omega), swL_at a _ _ _ (by omega) (by omega), if_neg (by omega), if_neg (by omega), if_neg (by omega), if_neg (by omega)]
  exact h k k0 (by omega)
theorem downI_leaf {a : List Int} {i n : Nat} (h : DownI a i n) (hn : n ≤ 2 * i + 1) : HeapN a n := fun k k0 hk => h.1 k k0 hk (by omega)
/-- j is the least child. -/
def LeastC (a : List Int) (i j n : Nat) : Prop := j < n ∧ (j = 2 * i + 1 ∨ j = 2 * i + 2) ∧ ∀ k, 0 < k → k < n → (k - 1) / 2 = i → hg a j ≤ hg a k
theorem leastC_one {a : List Int} {i n : Nat} (h1 : 2 * i + 1 < n) (h2 : n ≤ 2 * i + 2 ∨ hg a (2 * i + 1) ≤ hg a (2 * i + 2)) : LeastC a i (2 * i + 1) n := by
  refine ⟨h1, .inl rfl, fun k k0 hk hp => ?_⟩
  rcases (show k = 2 * i + 1 ∨ k = 2 * i + 2 by omega) with e | e
  · rw [e]; exact Int.le_refl _
  · rw [e]; rcases h2 with h2 | h2
    · omega
    · exact h2
theorem leastC_two {a : List Int} {i n : Nat} (h1 : 2 * i + 2 < n) (h2 : hg a (2 * i + 2) < hg a (2 * i + 1)) : LeastC a i (2 * i + 2) n := by
  refine ⟨h1, .inr rfl, fun k k0 hk hp => ?_⟩
  rcases (show k = 2 * i + 1 ∨ k = 2 * i + 2 by omega) with e | e
  · rw [e]; omega
  · rw [e]; exact Int.le_refl _
theorem downI_stop {a : List Int} {i j n : Nat} (h : DownI a i n) (hc : LeastC a i j n) (hle : hg a i ≤ hg a j) : HeapN a n := fun k k0 hk => by
  by_cases e : (k - 1) / 2 = i
  · have := hc.2.2 k k0 hk e
    rw [e]; omega
  · exact h.1 k k0 hk e
theorem downI_step {a : List Int} {i j n : Nat} (h : DownI a i n) (hn : n ≤ a.length) (hc : LeastC a i j n) (hlt : hg a j < hg a i) : DownI (swL a i j) j n := by
  obtain ⟨c1, c2, c3⟩ := hc
  have hi : i < a.length := by omega
  have hj : j < a.length := by omega
  have hpj : (j - 1) / 2 = i := by omega
  refine ⟨fun k k0 hk hne => ?_, fun k k0 hk hp _ => ?_⟩
  · rw [swL_at a _ _ _ hi hj, swL_at a _ _ _ hi hj]
    by_cases e1 : (k - 1) / 2 = i
    · rw [if_neg hne, if_pos e1]
      by_cases e2 : k = j
      · rw [if_pos e2]; omega
      · rw [if_neg e2, if_neg (by omega)]
        exact c3 k k0 hk e1
    · rw [if_neg hne, if_neg e1]
      by_cases e2 : k = j
      · omega
      · rw [if_neg e2]
        by_cases e3 : k = i
        · rw [if_pos e3, e3]
          exact h.2 j (by omega) c1 hpj (by omega)
        · rw [if_neg e3]
          exact h.1 k k0 hk e1
  · rw [swL_at a _ _ _ hi hj, swL_at a _ _ _ hi hj, if_neg (by omega), if_pos hpj, if_neg (by omega), if_neg (by omega)]
    have := h.1 k k0 hk (by omega)
    rw [hp] at this
    exact this
/-- What is put in; what is taken out. -/
def Heaped (a : List Int) : Prop := HeapN a a.length
theorem heaped_nil : Heaped [] := fun k _ h => by simp at h
/-- b is a heap of what a bears and x. -/
def Pushed (a : List Int) (x : Int) (b : List Int) : Prop := Heaped b ∧ b.Perm (x :: a)
/-- x is the least that a bears, b a heap of the rest. -/
def Popped (a : List Int) (x : Int) (b : List Int) : Prop := Heaped b ∧ a.Perm (x :: b) ∧ ∀ y ∈ a, x ≤ y
theorem pushed_of (a b : List Int) (x : Int) (hp : b.Perm (a ++ [x])) (hh : HeapN b (a.length + 1)) : Pushed a x b := by
  have hl : b.length = a.length + 1 := by rw [hp.length_eq]; simp
  refine ⟨by unfold Heaped; rw [hl]; exact hh, hp.trans ?_⟩
  exact List.perm_append_singleton x a
theorem popped_of (a c : List Int) (n : Nat) (hl : a.length = n + 1) (ha : Heaped a) (hp : c.Perm a) (hh : HeapN c n) (hlast : hg c n = hg a 0) : Popped a (hg a 0) (c.take n) := by
  have hcl : c.length = n + 1 := by rw [hp.length_eq, hl]
  have ec : c = c.take n ++ [hg a 0] := by
    have h1 : c.take (n + 1) = c.take n ++ [c[n]] := List.take_succ_eq_append_getElem (by omega)
    rw [List.take_of_length_le (by omega)] at h1
    have h2 : c[n] = hg a 0 := by rw [← hlast]; simp [hg, hcl]
    rw [h2] at h1
    exact h1
  refine ⟨?_, ?_, ?_⟩
  · unfold Heaped
    rw [List.length_take, Nat.min_eq_left (by omega)]
    intro k k0 hk
    have e : ∀ m, m < n → hg (c.take n) m = hg c m := fun m hm => by simp [hg, hm]
    rw [e k hk, e _ (by omega)]
    exact hh k k0 hk
  · refine hp.symm.trans ?_
    have h3 := List.perm_append_singleton (hg a 0) (c.take n)
    rw [← ec] at h3
    exact h3
  · intro y hy
    obtain ⟨k, hk, rfl⟩ := List.getElem_of_mem hy
    have := ha.root k hk
    simpa [hg, hk] using this
end Go.Proofs.Ytpfpkpaodlmlaaa
namespace Go.Proofs.Ytpfpkpaodlmlaaa
set_option maxRecDepth 100000
open Go.RowKit
set_option linter.unusedVariables false
attribute [local go_sem] ba_size
/-- A row of numbers in a block of its own. -/
abbrev HRow (W : World) (B g c : Nat) (a : List Int) : Prop := W.ownsRow B 3 1 (.slice (some ⟨g, 0, none⟩) a.length c) a.length (iV a)
theorem HRow.cell {W : World} {B g c : Nat} {a : List Int} (h : HRow W B g c a) (j : Nat) (hj : j < a.length) : W.cell? ⟨g, j, none⟩ = some (.int .i64 (hg a j)) := by
  rw [h.cellAt j (by omega), iV_at a j hj]
  simp [hj]
theorem HRow.set {W : World} {B g c : Nat} {a : List Int} (h : HRow W B g c a) (j : Nat) (x : Int) : HRow (W.setCell ⟨g, j, none⟩ (.int .i64 x)) B g c (a.set j x) := by
  have := (h.stored j (.int .i64 x)).1
  unfold HRow
  rw [List.length_set]
  have e : (iV a).set j (.int .i64 x) = iV (a.set j x) := by unfold iV; rw [List.map_set]
  rw [e] at this
  exact this
theorem plen11_any (a : Option Addr) (n c : Nat) (W : World) : Calls Try.prog 26 #[.slice a n c] W fun e W' => e = .returned (.int .i64 (n : Int)) ∧ W' = W := by
  go_enter Try.func26, Try.ntmps26
  go_wp2_with fail
  go_ret
  exact ⟨rfl, rfl⟩
theorem pless11_any (W : World) (B g c : Nat) (a : List Int) (h : HRow W B g c a) (i j : Nat) (hi : i < a.length) (hj : j < a.length) (hn : a.length ≤ 140737488351232) :
    Calls Try.prog 90 #[.slice (some ⟨g, 0, none⟩) a.length c, .int .i64 (i : Int), .int .i64 (j : Int)] W fun e W' => e = .returned (.bool (decide (hg a i < hg a j))) ∧ Below W.heap.size W W' := by
  have c1 := h.cell i hi
  have c2 := h.cell j hj
  obtain ⟨n, hnn⟩ : ∃ n, a.length = n := ⟨_, rfl⟩
  rw [hnn] at hi hj hn ⊢
  have j1 : (i : Int) < (n : Int) := by omega
  have j2 : (j : Int) < (n : Int) := by omega
  obtain ⟨x, hx⟩ : ∃ x, hg a i = x := ⟨_, rfl⟩
  obtain ⟨y, hy⟩ : ∃ y, hg a j = y := ⟨_, rfl⟩
  rw [hx] at c1 ⊢
  rw [hy] at c2 ⊢
  clear hx hy h hnn
  go_enter Try.func90, Try.ntmps90
  go_wp2_with fail
  go_quiet (fail)
  go_wp2_with fail
  go_ret
  exact ⟨rfl, below_drewN (Below.refl _ _) nq⟩
set_option maxHeartbeats 2000000 in
theorem pswap11_any (W : World) (B g c : Nat) (a : List Int) (h : HRow W B g c a) (i j : Nat) (hi : i < a.length) (hj : j < a.length) (hn : a.length ≤ 140737488351232) :
    Calls Try.prog 92 #[.slice (some ⟨g, 0, none⟩) a.length c, .int .i64 (i : Int), .int .i64 (j : Int)] W fun e W' => e = .returned (.tuple #[]) ∧ HRow W' B g c (swL a i j) ∧ W.grownBy W' (some g) := by
  have c1 := h.cell i hi
  have c2 := h.cell j hj
  have f1 := h.frozenAt i
  have f2 := h.frozenAt j
  have HE : Hid (HRow ((W.setCell ⟨g, i, none⟩ (.int .i64 (hg a j))).setCell ⟨g, j, none⟩ (.int .i64 (hg a i))) B g c (swL a i j)) := (h.set i _).set j _
  have HG : Hid (W.grownBy ((W.setCell ⟨g, i, none⟩ (.int .i64 (hg a j))).setCell ⟨g, j, none⟩ (.int .i64 (hg a i))) (some g)) := by
    have g1 := Lib.grownBy_setCell W g i (.int .i64 (hg a j))
    have g2 := Lib.grownBy_setCell (W.setCell ⟨g, i, none⟩ (.int .i64 (hg a j))) g j (.int .i64 (hg a i))
    exact ⟨g2.os.trans g1.os, g2.tape.trans g1.tape, g2.output.trans g1.output, Nat.le_trans g1.size g2.size, fun k hk hne => (g2.block k (Nat.lt_of_lt_of_le hk g1.size) hne).trans (g1.block k hk hne)⟩
  obtain ⟨n, hnn⟩ : ∃ n, a.length = n := ⟨_, rfl⟩
  rw [hnn] at hi hj hn ⊢
  have j1 : (i : Int) < (n : Int) := by omega
  have j2 : (j : Int) < (n : Int) := by omega
  obtain ⟨x, hx⟩ : ∃ x, hg a i = x := ⟨_, rfl⟩
  obtain ⟨y, hy⟩ : ∃ y, hg a j = y := ⟨_, rfl⟩
  rw [hx, hy] at HE HG
  rw [hx] at c1
  rw [hy] at c2
  obtain ⟨v', hv'⟩ : ∃ v', ((W.drew).setCell ⟨g, i, none⟩ (.int .i64 y)).cell? ⟨g, j, none⟩ = some v' := by
    by_cases e : (⟨g, i, none⟩ : Addr) = ⟨g, j, none⟩
    · rw [← e]; exact ⟨_, World.cell?_setCell_same _ _ _ (show W.drew.cell? ⟨g, i, none⟩ = some (.int .i64 x) from c1)⟩
    · exact ⟨_, (World.cell?_setCell_other _ _ _ _ e).trans (show W.drew.cell? ⟨g, j, none⟩ = some (.int .i64 y) from c2)⟩
  have f3 : ((W.drew).setCell ⟨g, i, none⟩ (.int .i64 y)).frozen? ⟨g, j, none⟩ = false := (World.frozen?_setCell _ _ _ _).trans f2
  have hv2 : ((W.setCell ⟨g, i, none⟩ (.int .i64 y)).drew).cell? ⟨g, j, none⟩ = some v' := hv'
  have f4 : ((W.setCell ⟨g, i, none⟩ (.int .i64 y)).drew).frozen? ⟨g, j, none⟩ = false := f3
  clear hx hy h hnn
  go_enter Try.func92, Try.ntmps92
  go_wp2_with fail
  go_region
  all_goals (go_end0; exact ⟨rfl, HE.out, ⟨HG.out.os, HG.out.tape, HG.out.output, HG.out.size, HG.out.block⟩⟩)
end Go.Proofs.Ytpfpkpaodlmlaaa
namespace Go.Proofs.Ytpfpkpaodlmlaaa
set_option maxRecDepth 100000
open Go.RowKit
set_option linter.unusedVariables false
attribute [local go_sem] ba_size
abbrev tR : TypeId := 48
/-- A variable that bears a row of numbers, both from block B on. -/
def HpS (W : World) (B bn : Nat) (a : List Int) : Prop := B ≤ bn ∧ ∃ v, Boxed W bn tR v ∧ W.ownsRow B 3 1 v a.length (iV a)
theorem HpS.bel {W W' : World} {B bn : Nat} {a : List Int} (h : HpS W B bn a) (hb : Below W.heap.size W W') : HpS W' B bn a := by
  obtain ⟨h0, v, h1, h2⟩ := h
  exact ⟨h0, v, (hb.block bn h1.lt).trans h1, h2.kept (grown_below8 none hb) (by cases v.ownBlock <;> simp)⟩
theorem cell_al11 {W : World} {p : Addr} {u : Value} (o : Obj) (h : W.cell? p = some u) : (W.alloc o).cell? p = some u := cell_bel ((Below.refl _ W).alloc (Nat.le_refl _) o) h
theorem own_shape11 {W : World} {B e k n : Nat} {v : Value} {xs : List Value} (h : W.ownsRow B e k v n xs) : ∃ ad c, v = .slice ad n c := by
  rcases h.2 with ⟨rfl, rfl⟩ | ⟨g, cap, cur, rfl, _⟩
  · exact ⟨_, _, rfl⟩
  · exact ⟨_, _, rfl⟩
set_option maxHeartbeats 4000000 in
theorem ppush11_any (W : World) (B bn : Nat) (a : List Int) (x : Int) (hx : I64 x) (h : HpS W B bn a) (hn : a.length < 17592186044416) :
    Calls Try.prog 94 #[.pointer (some ⟨bn, 0, none⟩), .iface 3 (.int .i64 x)] W fun e W' => e = .returned (.tuple #[]) ∧ HpS W' B bn (a ++ [x]) ∧ Fr B bn W W' := by
  obtain ⟨i0, hi, hz0, hz1, hz2⟩ := info_parts int_info
  obtain ⟨hB, v, hb, hrow⟩ := h
  have hlt := hb.lt
  have hne := block_not_row hb (by decide) hrow
  obtain ⟨n, hnn⟩ : ∃ n, a.length = n := ⟨_, rfl⟩
  have HN : Hid (a.length = n) := hnn
  rw [hnn] at hrow hn
  clear hnn
  go_enter Try.func94, Try.ntmps94
  refine wp_region_any (by kernel_rfl) ?_
  change wpAny _ _ _ _ _ _ _ (World.drew _)
  generalize hwd : World.drew _ = wd
  have hbd : Boxed wd bn tR v := by rw [← hwd]; exact hb
  have hrowd : wd.ownsRow B 3 1 v n (iV a) := by rw [← hwd]; exact hrow
  have hBd : Fr B bn W wd := by rw [← hwd]; exact (Fr.refl _ _ _).drew
  have hsd : W.heap.size ≤ wd.heap.size := by rw [← hwd]; exact Nat.le_refl _
  have hta : ∀ V, (Instr.typeAssert (.iface 3 (.int .i64 x)) 20 3 false).run Try.prog V = .ok (.int .i64 x) V := fun V => by kernel_rfl
  clear hwd
  have p0 := hbd.cell
  refine any_of_C (C := fun V => V.cell? ⟨bn, 0, none⟩ = some v) 9 _ _ _ _ ?_
  refine takeC (i := 0) (v := .pointer (some ⟨bn, 0, none⟩)) rfl (by kernel_rfl) (by kernel_rfl) (by kernel_rfl) (by kernel_rfl) (by kernel_rfl) (fun _ _ _ h => h) (Or.inl ⟨by kernel_rfl, fun V hV => by go_simp⟩) ?_
  refine takeC (i := 1) (v := .pointer (some ⟨bn, 0, none⟩)) rfl (by kernel_rfl) (by kernel_rfl) (by kernel_rfl) (by kernel_rfl) (by kernel_rfl) (fun _ _ _ h => h) (Or.inl ⟨by kernel_rfl, fun V hV => by go_simp⟩) ?_
  refine takeC (i := 2) (v := .pointer (some ⟨bn, 0, none⟩)) rfl (by kernel_rfl) (by kernel_rfl) (by kernel_rfl) (by kernel_rfl) (by kernel_rfl) (fun _ _ _ h => h) (Or.inl ⟨by kernel_rfl, fun V hV => by go_simp⟩) ?_
  refine takeC (i := 3) (v := .pointer (some ⟨bn, 0, none⟩)) rfl (by kernel_rfl) (by kernel_rfl) (by kernel_rfl) (by kernel_rfl) (by kernel_rfl) (fun _ _ _ h => h) (Or.inl ⟨by kernel_rfl, fun V hV => by go_simp⟩) ?_
  refine takeC (i := 4) (v := v) rfl (by kernel_rfl) (by kernel_rfl) (by kernel_rfl) (by kernel_rfl) (by kernel_rfl) (fun _ _ _ h => h) (Or.inl ⟨by kernel_rfl, fun V hV => by go_simp⟩) ?_
  refine takeC (i := 5) (v := .iface 3 (.int .i64 x)) rfl (by kernel_rfl) (by kernel_rfl) (by kernel_rfl) (by kernel_rfl) (by kernel_rfl) (fun _ _ _ h => h) (Or.inl ⟨by kernel_rfl, fun V hV => by go_simp⟩) ?_
  refine takeC (i := 6) (v := .int .i64 x) rfl (by kernel_rfl) (by kernel_rfl) (by kernel_rfl) (by kernel_rfl) (by kernel_rfl) (fun _ _ _ h => h) (Or.inl ⟨by kernel_rfl, fun V hV => by go_simp⟩) ?_
  refine consC (i := 7) (by kernel_rfl) (by kernel_rfl) p0 rfl (fun K hK => ?_)
  go_wp2_with fail
  refine consC (i := 8) (by kernel_rfl) (by kernel_rfl) (cell_al11 _ p0) rfl (fun K hK => ?_)
  refine wpList_append_own_at _ rfl _ _ 46 rfl B 3 i0 (.int .i64 0) 1 8 Try.underlying46 hi hz0 hz1 hz2 rfl (by decide) v _ _ rfl (hrowd.alloc _) ⟨wd.heap.size, 0, none⟩ 1 1 [.int .i64 x] rfl rfl ?a1 ?a2 ?a3 ?a4 ?a5 ?_
  case a1 => intro j u hj; match j, hj with
    | 0, hj => simp at hj; subst hj; simp [Addr.add]
  case a2 => intro u hu; simp at hu; subst hu; rfl
  case a3 => unfold maxLen; omega
  case a4 => omega
  case a5 => simp; omega
  intro r3 w3 hown3 hg3 _ hat3
  obtain ⟨ad3, c3, rfl⟩ := own_shape11 hown3
  have hb3 : Boxed w3 bn tR v := (hg3.block bn (by simp; omega) hne).trans ((Below.refl _ wd).alloc (Nat.le_refl _) _ |>.block bn (by have := hbd.lt; omega) |>.trans hbd)
  have B3 : Fr B bn W w3 := (hBd.alloc (by omega) (by omega) _).row (hrowd.alloc _) (hbd.alloc _) (by decide) hg3 (by simp; omega)
  have p3 := hb3.cell
  have f3 := hb3.frozen
  go_wp2_with fail
  refine lastC (by kernel_rfl) (by kernel_rfl) p3 (of_decide_eq_true (by kernel_rfl)) ?_
  refine any_seqI [9, 10, 11] [_, _, _] _ _ _ rfl (by kernel_rfl) ?_
  go_wp2_with fail
  go_end0
  have hne3 : (Value.slice ad3 (n + 1) c3).ownBlock ≠ some bn := fun e => by
    rcases hat3 with e1 | e1
    · exact hne (by rw [← e1, e])
    · rw [e] at e1; have e3 := Option.some.inj e1; have e4 := hbd.lt; simp at e3; omega
  refine ⟨rfl, ⟨hB, _, hb3.set _, ?_⟩, B3.set hB hb3 _ (by
    rw [vblk_of hb]
    rcases hat3 with e1 | e1
    · exact .inl e1
    · exact .inr ⟨_, e1, by simp; omega⟩)⟩
  rw [List.length_append, HN.out, iV_app]
  exact owns_keep7 hown3 _ (fun e => hne3 e.symm)
theorem own_cut11 {W : World} {B g c n : Nat} {a : List Int} (h : HRow W B g c a) (hn : n ≤ a.length) : W.ownsRow B 3 1 (.slice (some ⟨g, 0, none⟩) n c) n (iV (a.take n)) := by
  rcases h.2 with ⟨e, _⟩ | ⟨g', cap, cur, e, h1, h2, h3, h4, h5, h6⟩
  · cases e
  · obtain ⟨e1, e2⟩ : g = g' ∧ c = cap := by simpa using e
    subst e1 e2
    refine ⟨by rw [iV_length, List.length_take]; omega, .inr ⟨g, c, cur, rfl, h1, h2, by omega, h4, h5, ?_⟩⟩
    have e3 : cur.toList.take (n * 1) = (cur.toList.take (a.length * 1)).take (n * 1) := by rw [List.take_take]; congr 1; omega
    rw [e3, h6]
    unfold iV
    rw [List.map_take, Nat.mul_one]
set_option maxHeartbeats 2000000 in
theorem ppop11_any (W : World) (B bn : Nat) (a : List Int) (x : Int) (h : HpS W B bn (a ++ [x])) (hn : a.length < 17592186044416) :
    Calls Try.prog 93 #[.pointer (some ⟨bn, 0, none⟩)] W fun e W' => e = .returned (.iface 3 (.int .i64 x)) ∧ HpS W' B bn a ∧ Fr B bn W W' := by
  obtain ⟨hB, v, hb, hrow⟩ := h
  have hne := block_not_row hb (by decide) hrow
  rcases hrow.2 with ⟨_, e0⟩ | ⟨g, cp, cur, rfl, hbase, hbg, k1, k2, k3, k4⟩
  · simp at e0
  have hR : HRow W B g cp (a ++ [x]) := hrow
  have hcut := own_cut11 (n := a.length) hR (by simp)
  have c1 := hR.cell a.length (by simp)
  have e1 : hg (a ++ [x]) a.length = x := by simp [hg]
  rw [e1] at c1
  rw [List.take_left' rfl] at hcut
  rw [List.length_append] at hb hrow k1
  simp only [List.length_singleton] at hb hrow k1
  have HE : Hid (HpS (W.setCell ⟨bn, 0, none⟩ (.slice (some ⟨g, 0, none⟩) a.length cp)) B bn a) := ⟨hB, _, hb.set _, owns_keep7 hcut _ (fun e => hne (by rw [e]; simp [Value.ownBlock]))⟩
  obtain ⟨n, hnn⟩ : ∃ n, a.length = n := ⟨_, rfl⟩
  rw [hnn] at hb c1 hn k1 HE
  have Hbx : Hid (Boxed W bn tR (.slice (some ⟨g, 0, none⟩) (n + 1) cp)) := hb
  have p0 := hb.cell
  have f0 := hb.frozen
  have k2' : cp ≤ 9223372036854775807 := by unfold maxLen at k2; omega
  clear hnn hrow hcut hR e1 k2 k3 k4
  have j1 : (n : Int) < (n : Int) + 1 := by omega
  have j2 : (n : Int) ≤ (cp : Int) := by omega
  have j3 : n ≤ cp := by omega
  have w1 : IntKind.i64.wrap ((n : Int) + 1 - 1) = (n : Int) := by rw [IntKind.wrap_i64]; omega
  go_enter Try.func93, Try.ntmps93
  go_wp2_with fail
  go_ret
  exact ⟨rfl, HE.out, (Fr.refl _ _ _).set hB Hbx.out _ (.inl (by rw [vblk_of Hbx.out]; rfl))⟩
end Go.Proofs.Ytpfpkpaodlmlaaa
namespace Go.Proofs.Ytpfpkpaodlmlaaa
set_option maxRecDepth 100000
open Go.RowKit Go.Sort
set_option linter.unusedVariables false
attribute [local go_sem] ba_size
/-- A row of numbers that a call has made. -/
def NRow (w : World) (L : List Int) (e : Ending) (w' : World) : Prop := ∃ v, e = .returned v ∧ Below w.heap.size w w' ∧ w'.ownsRow w.heap.size 3 1 v L.length (iV L)
set_option maxHeartbeats 2000000 in
theorem pcloneI_any (v : Value) (L : List Int) (w : World) (hO : IsInts w v L) (hS : Shp v) (hn : L.length ≤ 17592186043904) :
    Calls Try.prog 42 #[v] w fun e w' => NRow w L e w' := by
  obtain ⟨i0, hi, hz0, hz1, hz2⟩ := info_parts int_info
  have qT : ∀ (w : World) (a : Option Addr) (n c n' c' : Nat), (binOp .eql 22 (.slice a n c) (.slice none n' c')).run Try.prog w = .ok (.bool a.isNone) w := fun w a n c n' c' => Lib.run_eql_slice_nil w _ _ a n c n' c' Try.underlying22
  rcases hS with rfl | ⟨ad, n', c', rfl⟩
  · obtain ⟨a, cap, e, _⟩ := hO.some_at
    have h0 : L = [] := List.length_eq_zero_iff.1 (by simp at e; omega)
    subst h0
    clear hO e
    go_enter Try.func42, Try.ntmps42
    go_wp2_with fail
    go_ret
    exact ⟨_, rfl, Below.refl _ _, World.ownsRow_nil _ _ _ _⟩
  · obtain ⟨a, cap, e, q1, q2, q3, HCn⟩ := IsInts.reads hO
    obtain ⟨rfl, rfl, rfl⟩ : some ad = a ∧ n' = L.length ∧ c' = cap := by simpa using e
    have E0 := own_empty8 w 3 1
    have BE := (Below.refl w.heap.size w).alloc (Nat.le_refl _) (.cells #[] 3)
    have SRC := IsRec.src intV_len (by omega) hO BE
    have LEN := recV_length intV_len L
    have ONE := recV_one (enc := intV) (fun x u hu => by simp [intV] at hu; subst hu; rfl) L
    obtain ⟨n, hnn⟩ : ∃ n, L.length = n := ⟨_, rfl⟩
    have HN : Hid (L.length = n) := hnn
    rw [hnn] at q1 q3 LEN hn ⊢
    clear e HCn hnn
    go_enter Try.func42, Try.ntmps42
    go_wp2_with (at_builtin; refine wpList_append_own _ rfl _ _ 22 rfl w.heap.size 3 i0 (.int .i64 0) 1 8 Try.underlying22 hi hz0 hz1 hz2 rfl (by decide) _ _ _ rfl E0 ad n c' (recV intV L) rfl LEN SRC ONE ?d3 ?d4 ?d5 ?_)
    case d3 => unfold maxLen; omega
    case d4 => omega
    case d5 => simp
    intro v1 w1 own1 g1 _
    have hB1 : Below w.heap.size w w1 := BE.grown g1 (by simp) (fun j hj => (E0.lt j hj).1)
    (try rw [List.nil_append, Nat.zero_add] at own1)
    go_wp2_with fail
    go_ret
    refine ⟨_, rfl, hB1, ?_⟩
    rw [HN.out, ← iV_rec]
    exact own1
/-- What is owned may be sorted. -/
theorem psort11_any {W : World} {B : Nat} {v : Value} {L : List Int} (h : W.ownsRow B 3 1 v L.length (iV L)) (hl : L.length < 4611686018427387904) :
    Calls Try.prog 43 #[v] W fun e W1 => e = .returned (.tuple #[]) ∧ W.grownBy W1 v.ownBlock ∧ W1.ownsRow B 3 1 v L.length (iV (L.mergeSort fun x y => decide (x ≤ y))) := by
  rcases h.2 with ⟨rfl, h0⟩ | ⟨g, cp, cur, rfl, hbase, hb, k1, k2, k3, k4⟩
  · have hk0 : L = [] := List.length_eq_zero_iff.1 h0
    subst hk0
    refine (psortI_none none 0 W).mono ?_
    rintro e W1 ⟨rfl, rfl⟩
    exact ⟨rfl, World.grownBy.refl _ _, by rw [List.mergeSort_nil]; exact World.ownsRow_nil _ _ _ _⟩
  · have hH := holds_of_blockI (ss := L) hb (by rw [Nat.mul_one] at k4; exact k4)
    have hTS := fun n os => ownsRow_sortedI (w := W) (n := n) (os := os) (ts := L.mergeSort fun x y => decide (x ≤ y)) (ss := L) (by simp) hbase hb k1 k2 k3
    refine (psortI_any g 0 cp L W hH (Array.getElem?_eq_some_iff.1 hb).1 hl).mono ?_
    rintro e w' ⟨r1, nn, os, r2⟩
    refine ⟨r1, by rw [r2]; exact grownBy_sortedI _, ?_⟩
    rw [r2]
    exact hTS nn os
theorem comp_len (L : List Int) : (Lib.compact L).length ≤ L.length := by
  unfold Lib.compact Lib.compactUpTo
  rw [List.length_map]
  have := List.length_filter_le (Lib.keeps L.toArray) (List.range L.length)
  simpa using this
theorem pcomp11_any {W : World} {B : Nat} {v : Value} {L : List Int} (h : W.ownsRow B 3 1 v L.length (iV L)) (hl : L.length ≤ 9223372036854775807) :
    Calls Try.prog 44 #[v] W fun e W1 => ∃ v', e = .returned v' ∧ W.grownBy W1 v.ownBlock ∧ v'.ownBlock = v.ownBlock ∧ W1.ownsRow B 3 1 v' (Lib.compact L).length (iV (Lib.compact L)) := by
  rcases h.2 with ⟨rfl, h0⟩ | ⟨g, cp, cur, rfl, hbase, hb, k1, k2, k3, k4⟩
  · have hk0 : L = [] := List.length_eq_zero_iff.1 h0
    subst hk0
    refine (pcompI_none none 0 W).mono ?_
    rintro e W1 ⟨rfl, rfl⟩
    exact ⟨_, rfl, World.grownBy.refl _ _, rfl, World.ownsRow_nil _ _ _ _⟩
  · have hH := holds_of_blockI (ss := L) hb (by rw [Nat.mul_one] at k4; exact k4)
    have hc := comp_len L
    obtain ⟨K, hK⟩ : ∃ K, Lib.compact L ++ List.replicate (L.length - (Lib.compact L).length) 0 = K := ⟨_, rfl⟩
    have hKl : K.length = L.length := by rw [← hK, List.length_append, List.length_replicate]; omega
    have hKt : K.take (Lib.compact L).length = Lib.compact L := by rw [← hK]; exact List.take_left' rfl
    have hTS := fun n => ownsRow_sortedI (w := W) (n := n) (os := #[]) (ts := K) (ss := L) hKl hbase hb k1 k2 k3
    have hGS := fun n => grownBy_sortedI (w := W) (g := g) (n := n) (os := #[]) K.toArray
    refine (pcompI_any g 0 cp L W hH hl k1).mono ?_
    rintro e w' ⟨r1, q, r2⟩
    rw [hK] at r2
    have e0 : w' = grow (putRow (Value.int .i64) (Sort.ahead W q) g 0 K.toArray) #[] := by rw [r2]; simp [grow]; rfl
    refine ⟨_, r1, ?_, rfl, ?_⟩
    · rw [e0]; exact hGS q
    · have hR : HRow w' B g cp K := by unfold HRow; rw [e0, hKl]; exact hTS q
      have := own_cut11 (n := (Lib.compact L).length) hR (by omega)
      rw [hKt] at this
      exact this
end Go.Proofs.Ytpfpkpaodlmlaaa
