/-
  What store.behind answers, at its three types.
-/
import Derived.Test.YtngllioidfffdaaGV
import Derived.Test.YtngllioidfffdaaGD
import Derived.Test.YtngllioidfffdaaGC
import Derived.ArgAppend
namespace Go.Proofs.Ytngllioidfffdaa
set_option maxRecDepth 100000
open Go.RowKit
set_option linter.unusedVariables false
attribute [local go_sem] ba_size
/-- A row of the walk's own is answered. -/
def BehRes (e sz : Nat) (w : World) (n : Nat) (xs : List Value) (x : Ending) (w' : World) : Prop := ∃ v, x = .returned v ∧ Below w.heap.size w w' ∧ w'.ownsRow w.heap.size e sz v n xs
theorem src_none {W : World} {sz n c : Nat} {xs : List Value} (h : Src17 W sz (.slice none n c) n xs) : n = 0 ∧ xs = [] := by
  rcases h with ⟨h1, h2, h3⟩ | ⟨ad, c', h1, _⟩
  · exact ⟨h2, h3⟩
  · simp at h1
theorem src_cells {W : World} {sz n c : Nat} {a : Option Addr} {xs : List Value} (h : Src17 W sz (.slice a n c) n xs) : xs.length = n * sz ∧ ∀ b, a = some b → ∀ j u, xs[j]? = some u → W.cell? (b.add j) = some u := by
  rcases h with ⟨h1, h2, h3⟩ | ⟨ad, c', h1, h2, h3⟩
  · simp at h1
    obtain ⟨rfl, rfl, rfl⟩ := h1
    subst h3
    exact ⟨by simp, fun b e => by cases e⟩
  · simp at h1
    obtain ⟨rfl, rfl⟩ := h1
    exact ⟨h2, fun b e => by cases e; exact h3⟩
theorem news17 {w : World} {B t : Nat} {cs : Array Value} (hb : SBox w B t cs) : ∀ j u, cs.toList[j]? = some u → w.cell? ((⟨B, 0, none⟩ : Addr).add j) = some u := fun j u hu => by
  have hadd : (⟨B, 0, none⟩ : Addr).add j = ⟨B, j, none⟩ := by unfold Addr.add; split <;> simp_all
  rw [hadd]
  exact hb.cell j u (by rw [← Array.getElem?_toList]; exact hu)
theorem pclipH_any (a : Option Addr) (n c : Nat) (hn : n ≤ c) (hc : c ≤ 9223372036854775807) (w : World) :
    Calls Try.prog 78 #[.slice a n c] w fun e w' => e = .returned (.slice a n n) ∧ w' = w := by
  go_enter Try.func78, Try.ntmps78
  go_wp2_with fail
  go_ret
  exact ⟨rfl, rfl⟩
theorem pclipC_any (a : Option Addr) (n c : Nat) (hn : n ≤ c) (hc : c ≤ 9223372036854775807) (w : World) :
    Calls Try.prog 80 #[.slice a n c] w fun e w' => e = .returned (.slice a n n) ∧ w' = w := by
  go_enter Try.func80, Try.ntmps80
  go_wp2_with fail
  go_ret
  exact ⟨rfl, rfl⟩
theorem pclipE_any (a : Option Addr) (n c : Nat) (hn : n ≤ c) (hc : c ≤ 9223372036854775807) (w : World) :
    Calls Try.prog 82 #[.slice a n c] w fun e w' => e = .returned (.slice a n n) ∧ w' = w := by
  go_enter Try.func82, Try.ntmps82
  go_wp2_with fail
  go_ret
  exact ⟨rfl, rfl⟩
theorem pbehH_any (a : Option Addr) (n c : Nat) (xs : List Value) (ao : Option Addr) (no co : Nat) (hn : n ≤ c) (hc : c ≤ 9223372036854775807) (hb : n ≤ 1099511627775) (w : World) (hS : Src17 w 1 (.slice a n c) n xs) :
    Calls Try.prog 65 #[.slice a n c, .slice ao no co] w fun x w' => BehRes 24 1 w (n + 1) (xs ++ [.slice ao no co]) x w' := by
  obtain ⟨i0, hi, hz0, hz1, hz2⟩ := info_parts sto_info_hs
  have S := src_cells (hS.below ((Below.refl _ w).alloc (Nat.le_refl _) (.cells #[.slice ao no co] 24)))
  have S0 : a = none → n = 0 ∧ n = 0 := fun e => by subst e; exact ⟨(src_none hS).1, (src_none hS).1⟩
  have NB := news17 (SBox.new w 24 #[.slice ao no co])
  have HS := Lib.hid S
  have HN := Lib.hid NB
  clear S NB hS
  go_enter Try.func65, Try.ntmps65
  go_wp2_with fail
  refine (pclipH_any a n c hn hc _).mono ?_
  rintro e w1 ⟨rfl, hw⟩
  obtain rfl : w = w1 := hw.symm
  go_wp2_with (at_builtin; refine wpList_append_grows _ rfl _ _ 25 rfl 24 i0 _ 1 24 Try.underlying25 hi hz0 hz1 hz2 rfl (by decide) a n n xs rfl S0 HS.out.1 HS.out.2 ⟨w.heap.size, 0, none⟩ 1 1 [.slice ao no co] rfl rfl HN.out ?d3 ?d4 ?d5 ?d6 ?_)
  case d3 => intro u hu; simp at hu; subst hu; rfl
  case d4 => omega
  case d5 => unfold maxLen; omega
  case d6 => omega
  intro v1 w1 own1 g1
  go_wp2_with fail
  go_ret
  exact ⟨_, rfl, (bel1 w _).grown g1 (by simp) (fun j ej => by cases ej), owns_low own1 (by simp)⟩
theorem pbehC_any (a : Option Addr) (n c : Nat) (xs : List Value) (t : List UInt8) (hn : n ≤ c) (hc : c ≤ 9223372036854775807) (hb : n ≤ 1099511627775) (w : World) (hS : Src17 w 1 (.slice a n c) n xs) :
    Calls Try.prog 67 #[.slice a n c, .string ⟨t.toArray⟩] w fun x w' => BehRes 9 1 w (n + 1) (xs ++ [.string ⟨t.toArray⟩]) x w' := by
  obtain ⟨i0, hi, hz0, hz1, hz2⟩ := info_parts str_info
  have S := src_cells (hS.below ((Below.refl _ w).alloc (Nat.le_refl _) (.cells #[.string ⟨t.toArray⟩] 9)))
  have S0 : a = none → n = 0 ∧ n = 0 := fun e => by subst e; exact ⟨(src_none hS).1, (src_none hS).1⟩
  have NB := news17 (SBox.new w 9 #[.string ⟨t.toArray⟩])
  have HS := Lib.hid S
  have HN := Lib.hid NB
  clear S NB hS
  go_enter Try.func67, Try.ntmps67
  go_wp2_with fail
  refine (pclipC_any a n c hn hc _).mono ?_
  rintro e w1 ⟨rfl, hw⟩
  obtain rfl : w = w1 := hw.symm
  go_wp2_with (at_builtin; refine wpList_append_grows _ rfl _ _ 26 rfl 9 i0 _ 1 16 Try.underlying26 hi hz0 hz1 hz2 rfl (by decide) a n n xs rfl S0 HS.out.1 HS.out.2 ⟨w.heap.size, 0, none⟩ 1 1 [.string ⟨t.toArray⟩] rfl rfl HN.out ?d3 ?d4 ?d5 ?d6 ?_)
  case d3 => intro u hu; simp at hu; subst hu; rfl
  case d4 => omega
  case d5 => unfold maxLen; omega
  case d6 => omega
  intro v1 w1 own1 g1
  go_wp2_with fail
  go_ret
  exact ⟨_, rfl, (bel1 w _).grown g1 (by simp) (fun j ej => by cases ej), owns_low own1 (by simp)⟩
theorem pbehE_any (a : Option Addr) (n c : Nat) (xs : List Value) (y0 y1 : Int) (y2 y3 : List UInt8) (hn : n ≤ c) (hc : c ≤ 9223372036854775807) (hb : n ≤ 1099511627775) (w : World) (hS : Src17 w 4 (.slice a n c) n xs) :
    Calls Try.prog 69 #[.slice a n c, .agg #[.int .i64 y0, .int .i64 y1, .string ⟨y2.toArray⟩, .string ⟨y3.toArray⟩]] w fun x w' => BehRes 30 4 w (n + 1) (xs ++ [.int .i64 y0, .int .i64 y1, .string ⟨y2.toArray⟩, .string ⟨y3.toArray⟩]) x w' := by
  obtain ⟨i0, hi, hz0, hz1, hz2⟩ := info_parts sto_info_ev
  have S0 : a = none → n = 0 ∧ n = 0 := fun e => by subst e; exact ⟨(src_none hS).1, (src_none hS).1⟩
  have X := SBox.new w 30 #[.int .i64 y0, .int .i64 y1, .string ⟨y2.toArray⟩, .string ⟨y3.toArray⟩]
  have B0 := bel1 w (.cells #[.int .i64 y0, .int .i64 y1, .string ⟨y2.toArray⟩, .string ⟨y3.toArray⟩] 30)
  go_enter Try.func69, Try.ntmps69
  go_wp2_with fail
  refine wp_region_any (by kernel_rfl) ?_
  change wpAny _ _ _ _ _ _ _ (World.drew _)
  generalize hwd : World.drew _ = wd
  have Xd := X.drew
  have Bd := B0.drew
  rw [hwd] at Xd Bd
  have HS : Hid (Src17 wd 4 (.slice a n c) n xs) := hS.below Bd
  clear hwd X B0 hS
  refine any_of_C (C := (fun V => SBox V w.heap.size 30 #[.int .i64 y0, .int .i64 y1, .string ⟨y2.toArray⟩, .string ⟨y3.toArray⟩])) 5 _ _ _ _ ?_
  refine takeD 0 (.slice a n c) rfl (by kernel_rfl) (fun _ _ _ h => h) (fun V hV => by go_simp) ?_
  refine takeD 2 (.agg #[.int .i64 y0, .int .i64 y1, .string ⟨y2.toArray⟩, .string ⟨y3.toArray⟩]) rfl (by kernel_rfl) (fun _ _ _ h => h) (fun V hV => by have c0 := hV.cell 0 _ rfl; have c1 := hV.cell 1 _ rfl; have c2 := hV.cell 2 _ rfl; have c3 := hV.cell 3 _ rfl; go_simp) ?_
  refine fork2 (i := 1) (j := 3) (by kernel_rfl) (by kernel_rfl) Xd rfl rfl (fun K hK => ?_) (fun K hK => ?_)
  · go_wp2_with fail
    refine (pclipE_any a n c hn hc _).mono ?_
    rintro e w1 ⟨rfl, hw⟩
    obtain rfl : wd = w1 := hw.symm
    go_wp2_with fail
    refine consC (i := 3) (by kernel_rfl) (by kernel_rfl) Xd rfl (fun K hK => ?_)
    have S := src_cells (HS.out.below ((Below.refl _ wd).alloc (Nat.le_refl _) (.cells #[.int .i64 y0, .int .i64 y1, .string ⟨y2.toArray⟩, .string ⟨y3.toArray⟩] 30)))
    have HC := Lib.hid S
    have HN := Lib.hid (news17 (SBox.new wd 30 #[.int .i64 y0, .int .i64 y1, .string ⟨y2.toArray⟩, .string ⟨y3.toArray⟩]))
    have BB := Bd.alloc Bd.size (.cells #[.int .i64 y0, .int .i64 y1, .string ⟨y2.toArray⟩, .string ⟨y3.toArray⟩] 30)
    have XX := Xd.alloc (.cells #[.int .i64 y0, .int .i64 y1, .string ⟨y2.toArray⟩, .string ⟨y3.toArray⟩] 30)
    clear S HS
    go_wp2_with fail
    refine consC (i := 4) (by kernel_rfl) (by kernel_rfl) XX rfl (fun K hK => ?_)
    refine wpList_append_grows _ rfl _ _ 24 rfl 30 i0 _ 4 48 Try.underlying24 hi hz0 hz1 hz2 rfl (by decide) a n n xs rfl S0 HC.out.1 HC.out.2 ⟨wd.heap.size, 0, none⟩ 1 1 [.int .i64 y0, .int .i64 y1, .string ⟨y2.toArray⟩, .string ⟨y3.toArray⟩] rfl rfl HN.out ?d3 ?d4 ?d5 ?d6 ?_
    case d3 => intro u hu; simp at hu; rcases hu with rfl | rfl | rfl | rfl <;> rfl
    case d4 => omega
    case d5 => unfold maxLen; omega
    case d6 => omega
    intro v1 W1 own1 g1
    have BB1 := BB.grown g1 BB.size (fun j ej => by cases ej)
    have OO := owns_low own1 BB.size
    have XX1 := XX.below ((Below.refl _ _).grown g1 (Nat.le_refl _) (fun j ej => by cases ej))
    clear own1 g1 HC HN BB
    go_wp2_with fail
    refine lastC (by kernel_rfl) (by kernel_rfl) XX1 (of_decide_eq_true (by kernel_rfl)) ?_
    refine any_seqI [5] [_] _ _ _ rfl (by kernel_rfl) ?_
    go_wp2_with fail
    go_ret
    exact ⟨_, rfl, BB1, OO⟩
  · go_wp2_with fail
    have S := src_cells (HS.out.below ((Below.refl _ wd).alloc (Nat.le_refl _) (.cells #[.int .i64 y0, .int .i64 y1, .string ⟨y2.toArray⟩, .string ⟨y3.toArray⟩] 30)))
    have HC := Lib.hid S
    have HN := Lib.hid (news17 (SBox.new wd 30 #[.int .i64 y0, .int .i64 y1, .string ⟨y2.toArray⟩, .string ⟨y3.toArray⟩]))
    have BB := Bd.alloc Bd.size (.cells #[.int .i64 y0, .int .i64 y1, .string ⟨y2.toArray⟩, .string ⟨y3.toArray⟩] 30)
    have XX := Xd.alloc (.cells #[.int .i64 y0, .int .i64 y1, .string ⟨y2.toArray⟩, .string ⟨y3.toArray⟩] 30)
    clear S HS
    refine consC (i := 1) (by kernel_rfl) (by kernel_rfl) XX rfl (fun K hK => ?_)
    generalize hWA : wd.alloc (.cells #[.int .i64 y0, .int .i64 y1, .string ⟨y2.toArray⟩, .string ⟨y3.toArray⟩] 30) = WA at HC HN BB XX ⊢
    go_wp2_with fail
    refine (pclipE_any a n c hn hc _).mono ?_
    rintro e w1 ⟨rfl, hw⟩
    obtain rfl : WA = w1 := hw.symm
    go_wp2_with fail
    refine consC (i := 4) (by kernel_rfl) (by kernel_rfl) XX rfl (fun K hK => ?_)
    refine wpList_append_grows _ rfl _ _ 24 rfl 30 i0 _ 4 48 Try.underlying24 hi hz0 hz1 hz2 rfl (by decide) a n n xs rfl S0 HC.out.1 HC.out.2 ⟨wd.heap.size, 0, none⟩ 1 1 [.int .i64 y0, .int .i64 y1, .string ⟨y2.toArray⟩, .string ⟨y3.toArray⟩] rfl rfl HN.out ?d3 ?d4 ?d5 ?d6 ?_
    case d3 => intro u hu; simp at hu; rcases hu with rfl | rfl | rfl | rfl <;> rfl
    case d4 => omega
    case d5 => unfold maxLen; omega
    case d6 => omega
    intro v1 W1 own1 g1
    have BB1 := BB.grown g1 BB.size (fun j ej => by cases ej)
    have OO := owns_low own1 BB.size
    have XX1 := XX.below ((Below.refl _ _).grown g1 (Nat.le_refl _) (fun j ej => by cases ej))
    clear own1 g1 HC HN BB
    go_wp2_with fail
    refine lastC (by kernel_rfl) (by kernel_rfl) XX1 (of_decide_eq_true (by kernel_rfl)) ?_
    refine any_seqI [5] [_] _ _ _ rfl (by kernel_rfl) ?_
    go_wp2_with fail
    go_ret
    exact ⟨_, rfl, BB1, OO⟩
end Go.Proofs.Ytngllioidfffdaa
