/-
  What edges.behind answers, at three types: a row that was made here, with one element more.
  What edges.alone and joined answer: a step, whose edges lie in a row that was made here.
  What the function that All hands on does: an edge more, behind those that were gathered.
  What edges.ofRead asks of versions, by the library's IndexFunc.
  What edges.ofRead gathers: the edges of one outer read.
-/
import Derived.Test.YteehpkkkagdckaaGE
import Derived.Test.YteehpkkkagdckaaGC
import Derived.Test.YteehpkkkagdckaaGD
import Derived.BigQuiet
import Derived.Deep.QuietTactic
namespace Go.Proofs.Yteehpkkkagdckaa
set_option maxRecDepth 100000
open Go.RowKit Go.Maps
set_option linter.unusedVariables false
attribute [local go_sem] ba_size
def Grew (w : World) (B t k : Nat) (r : Value) (n : Nat) (xs : List Value) (e : Ending) (w' : World) : Prop :=
  ∃ r', e = .returned r' ∧ w'.ownsRow B t k r' n xs ∧ w.grownBy w' r.ownBlock ∧ (r'.ownBlock = r.ownBlock ∨ ∃ g, r'.ownBlock = some g ∧ w.heap.size ≤ g)
set_option maxHeartbeats 1000000 in
theorem pbhE_any (r : Value) (n : Nat) (xs : List Value) (x0 x1 x2 x3 x4 : Int) (B : Nat) (w : World) (hrow : w.ownsRow B 24 5 r n xs) (hB : B ≤ w.heap.size) (hn : n ≤ 10000000) :
    Calls Try.prog 27 #[r, .agg #[.int .i64 x0, .int .i64 x1, .int .i64 x2, .int .i64 x3, .int .i64 x4]] w fun e w' => Grew w B 24 5 r (n + 1) (xs ++ [.int .i64 x0, .int .i64 x1, .int .i64 x2, .int .i64 x3, .int .i64 x4]) e w' := by
  obtain ⟨i0, hi, hz0, hz1, hz2⟩ := info_parts ed_info
  have X0 := SBox.new w 24 #[.int .i64 x0, .int .i64 x1, .int .i64 x2, .int .i64 x3, .int .i64 x4]
  have d0 := X0.cell 0 _ rfl
  have d1 := X0.cell 1 _ rfl
  have d2 := X0.cell 2 _ rfl
  have d3 := X0.cell 3 _ rfl
  have d4 := X0.cell 4 _ rfl
  go_enter Try.func27, Try.ntmps27
  go_wp2_with (at_builtin; refine wpList_append_own_at _ rfl _ _ 28 rfl B 24 i0 (.agg #[.int .i64 0, .int .i64 0, .int .i64 0, .int .i64 0, .int .i64 0]) 5 40 Try.underlying28 hi hz0 hz1 hz2 rfl (by decide) r _ _ rfl ((hrow.alloc _).alloc _) ⟨w.heap.size + 1, 0, none⟩ 1 1 [.int .i64 x0, .int .i64 x1, .int .i64 x2, .int .i64 x3, .int .i64 x4] rfl rfl ?a1 ?a2 ?a3 ?a4 ?a5 ?_)
  case a1 => intro j u hj; match j, hj with
    | 0, hj => simp at hj; subst hj; first | (simp [Addr.add]; done) | exact cell_new7 (by simp) rfl
    | 1, hj => simp at hj; subst hj; first | (simp [Addr.add]; done) | exact cell_new7 (by simp) rfl
    | 2, hj => simp at hj; subst hj; first | (simp [Addr.add]; done) | exact cell_new7 (by simp) rfl
    | 3, hj => simp at hj; subst hj; first | (simp [Addr.add]; done) | exact cell_new7 (by simp) rfl
    | 4, hj => simp at hj; subst hj; first | (simp [Addr.add]; done) | exact cell_new7 (by simp) rfl
  case a2 => intro u hu; simp at hu; rcases hu with rfl | rfl | rfl | rfl | rfl <;> rfl
  case a3 => unfold maxLen; omega
  case a4 => omega
  case a5 => simp; omega
  intro r3 w3 hown3 hg3 _ hat3
  go_wp2_with fail
  go_ret
  exact ⟨r3, rfl, hown3, ((World.grownBy_alloc _ _ _).trans (World.grownBy_alloc _ _ _)).trans hg3, hat3.imp id (fun e => ⟨_, e, by omega⟩)⟩
theorem int_info10 : (Try.prog.info? 3).map (fun i => (i.zero, i.size, i.bytes)) = some (some (.int .i64 0), 1, 8) := by kernel_rfl
set_option maxHeartbeats 1000000 in
theorem pbhI_any (r : Value) (n : Nat) (xs : List Value) (x : Int) (B : Nat) (w : World) (hrow : w.ownsRow B 3 1 r n xs) (hB : B ≤ w.heap.size) (hn : n ≤ 10000000) :
    Calls Try.prog 34 #[r, .int .i64 x] w fun e w' => Grew w B 3 1 r (n + 1) (xs ++ [.int .i64 x]) e w' := by
  obtain ⟨i0, hi, hz0, hz1, hz2⟩ := info_parts int_info10
  go_enter Try.func34, Try.ntmps34
  go_wp2_with (at_builtin; refine wpList_append_own_at _ rfl _ _ 31 rfl B 3 i0 (.int .i64 0) 1 8 Try.underlying31 hi hz0 hz1 hz2 rfl (by decide) r _ _ rfl (hrow.alloc _) ⟨w.heap.size, 0, none⟩ 1 1 [.int .i64 x] rfl rfl ?a1 ?a2 ?a3 ?a4 ?a5 ?_)
  case a1 => intro j u hj; match j, hj with
    | 0, hj => simp at hj; subst hj; first | (simp [Addr.add]; done) | exact cell_new7 (by simp) rfl
  case a2 => intro u hu; simp at hu; subst hu; rfl
  case a3 => unfold maxLen; omega
  case a4 => omega
  case a5 => simp; omega
  intro r3 w3 hown3 hg3 _ hat3
  go_wp2_with fail
  go_ret
  exact ⟨r3, rfl, hown3, (World.grownBy_alloc _ _ _).trans hg3, hat3.imp id (fun e => ⟨_, e, by omega⟩)⟩
set_option maxHeartbeats 1000000 in
theorem pbhS_any (r : Value) (n : Nat) (xs : List Value) (a b : Int) (ad : Option Addr) (m c : Nat) (B : Nat) (w : World) (hrow : w.ownsRow B 50 3 r n xs) (hB : B ≤ w.heap.size) (hn : n ≤ 10000000) :
    Calls Try.prog 60 #[r, .agg #[.int .i64 a, .int .i64 b, .slice ad m c]] w fun e w' => Grew w B 50 3 r (n + 1) (xs ++ [.int .i64 a, .int .i64 b, .slice ad m c]) e w' := by
  obtain ⟨i0, hi, hz0, hz1, hz2⟩ := info_parts st_info
  have X0 := SBox.new w 50 #[.int .i64 a, .int .i64 b, .slice ad m c]
  have d0 := X0.cell 0 _ rfl
  have d1 := X0.cell 1 _ rfl
  have d2 := X0.cell 2 _ rfl
  go_enter Try.func60, Try.ntmps60
  go_wp2_with (at_builtin; refine wpList_append_own_at _ rfl _ _ 35 rfl B 50 i0 (.agg #[.int .i64 0, .int .i64 0, .slice none 0 0]) 3 40 Try.underlying35 hi hz0 hz1 hz2 rfl (by decide) r _ _ rfl ((hrow.alloc _).alloc _) ⟨w.heap.size + 1, 0, none⟩ 1 1 [.int .i64 a, .int .i64 b, .slice ad m c] rfl rfl ?a1 ?a2 ?a3 ?a4 ?a5 ?_)
  case a1 => intro j u hj; match j, hj with
    | 0, hj => simp at hj; subst hj; first | (simp [Addr.add]; done) | exact cell_new7 (by simp) rfl
    | 1, hj => simp at hj; subst hj; first | (simp [Addr.add]; done) | exact cell_new7 (by simp) rfl
    | 2, hj => simp at hj; subst hj; first | (simp [Addr.add]; done) | exact cell_new7 (by simp) rfl
  case a2 => intro u hu; simp at hu; rcases hu with rfl | rfl | rfl <;> rfl
  case a3 => unfold maxLen; omega
  case a4 => omega
  case a5 => simp; omega
  intro r3 w3 hown3 hg3 _ hat3
  go_wp2_with fail
  go_ret
  exact ⟨r3, rfl, hown3, ((World.grownBy_alloc _ _ _).trans (World.grownBy_alloc _ _ _)).trans hg3, hat3.imp id (fun e => ⟨_, e, by omega⟩)⟩
end Go.Proofs.Yteehpkkkagdckaa
namespace Go.Proofs.Yteehpkkkagdckaa
set_option maxRecDepth 100000
open Go.RowKit Go.Maps
set_option linter.unusedVariables false
attribute [local go_sem] ba_size
def OneR (w : World) (a b : Int) (es : List Ed) (e : Ending) (w' : World) : Prop :=
  ∃ ad c, e = .returned (.agg #[.int .i64 a, .int .i64 b, .slice ad es.length c]) ∧ Below w.heap.size w w' ∧ w'.ownsRow w.heap.size 24 5 (.slice ad es.length c) es.length (recV edV es)
theorem own_shape {W : World} {B e k n : Nat} {v : Value} {xs : List Value} (h : W.ownsRow B e k v n xs) : ∃ ad c, v = .slice ad n c := by
  rcases h.2 with ⟨rfl, rfl⟩ | ⟨g, cap, cur, rfl, _⟩
  · exact ⟨none, 0, rfl⟩
  · exact ⟨_, _, rfl⟩
theorem own_far {W : World} {B e k n : Nat} {v : Value} {xs : List Value} (h : W.ownsRow B e k v n xs) : ∀ g, v.ownBlock = some g → B ≤ g := fun g hg => (h.lt g hg).1
theorem own_turnc {W W' : World} {g : Nat} {B e k n : Nat} {v : Value} {xs : List Value} (h : W.ownsRow B e k v n xs) (hg : W.grownBy W' (some g)) (hne : v.ownBlock ≠ some g) : W'.ownsRow B e k v n xs :=
  h.kept hg (.inr hne)
theorem SBox.put3s {W : World} {B t : Nat} {x y z : Value} (h : SBox W B t #[x, y, z]) (a b c : Value) : SBox (((W.setCell ⟨B, 0, none⟩ a).setCell ⟨B, 1, none⟩ b).setCell ⟨B, 2, none⟩ c) B t #[a, b, c] := SBox.put3 h a b c
theorem owns_set3 {W : World} {B e k n p : Nat} {v : Value} {xs : List Value} (h : W.ownsRow B e k v n xs) (t : Nat) (hne : v.ownBlock ≠ some p) (a b c : Value) : (((W.setCell ⟨p, 0, none⟩ a).setCell ⟨p, 1, none⟩ b).setCell ⟨p, 2, none⟩ c).ownsRow B e k v n xs :=
  owns_keep7 (g := p) (j := 2) (owns_keep7 (g := p) (j := 1) (owns_keep7 (g := p) (j := 0) h a (fun e => hne e.symm)) b (fun e => hne e.symm)) c (fun e => hne e.symm)
set_option maxHeartbeats 2000000 in
theorem palone_any (x0 x1 x2 x3 x4 : Int) (w : World) :
    Calls Try.prog 61 #[.agg #[.int .i64 x0, .int .i64 x1, .int .i64 x2, .int .i64 x3, .int .i64 x4]] w fun e w' => OneR w x1 x2 [(x0, x1, x2, x3, x4)] e w' := by
  have Xx := (SBox.new w 24 #[.int .i64 x0, .int .i64 x1, .int .i64 x2, .int .i64 x3, .int .i64 x4]).alloc (.cells #[.int .i64 0, .int .i64 0, .slice none 0 0] 50)
  have Y := SBox.new (w.alloc (.cells #[.int .i64 x0, .int .i64 x1, .int .i64 x2, .int .i64 x3, .int .i64 x4] 24)) 50 #[.int .i64 0, .int .i64 0, .slice none 0 0]
  simp only [World.size_alloc] at Xx Y
  have B0 : Below w.heap.size w ((w.alloc (.cells #[.int .i64 x0, .int .i64 x1, .int .i64 x2, .int .i64 x3, .int .i64 x4] 24)).alloc (.cells #[.int .i64 0, .int .i64 0, .slice none 0 0] 50)) := ((Below.refl _ w).alloc (Nat.le_refl _) _).alloc (by simp) _
  have S0 : ((w.alloc (.cells #[.int .i64 x0, .int .i64 x1, .int .i64 x2, .int .i64 x3, .int .i64 x4] 24)).alloc (.cells #[.int .i64 0, .int .i64 0, .slice none 0 0] 50)).heap.size = w.heap.size + 1 + 1 := by simp
  go_enter Try.func61, Try.ntmps61
  go_wp2_with fail
  refine wp_region_any (by kernel_rfl) ?_
  change wpAny _ _ _ _ _ _ _ (World.drew _)
  generalize hwd : World.drew _ = wd
  have Bd : Below w.heap.size w wd := by rw [← hwd]; exact B0.drew
  have Sd : wd.heap.size = w.heap.size + 1 + 1 := by rw [← hwd]; exact S0
  have Dx : SBox wd (w.heap.size) 24 #[.int .i64 x0, .int .i64 x1, .int .i64 x2, .int .i64 x3, .int .i64 x4] := by rw [← hwd]; exact Xx
  have DY : SBox wd (w.heap.size + 1) 50 #[.int .i64 0, .int .i64 0, .slice none 0 0] := by rw [← hwd]; exact Y
  clear hwd B0 S0 Xx Y
  have dx0 := Dx.cell 0 _ rfl
  have dx1 := Dx.cell 1 _ rfl
  have dx2 := Dx.cell 2 _ rfl
  have dx3 := Dx.cell 3 _ rfl
  have dx4 := Dx.cell 4 _ rfl
  refine any_of_C (C := fun V => V.cell? ⟨w.heap.size, 0, none⟩ = some (.int .i64 x0) ∧ V.cell? ⟨w.heap.size, 1, none⟩ = some (.int .i64 x1) ∧ V.cell? ⟨w.heap.size, 2, none⟩ = some (.int .i64 x2) ∧ V.cell? ⟨w.heap.size, 3, none⟩ = some (.int .i64 x3) ∧ V.cell? ⟨w.heap.size, 4, none⟩ = some (.int .i64 x4)) 7 _ _ _ _ ?_
  refine takeC (i := 0) (v := .pointer (some ⟨w.heap.size, 1, none⟩)) rfl (by kernel_rfl) (by kernel_rfl) (by kernel_rfl) (by kernel_rfl) (by kernel_rfl) (fun _ _ _ h => h) (Or.inl ⟨by kernel_rfl, fun V hV => by obtain ⟨r0, r1, r2, r3, r4⟩ := hV; go_simp⟩) ?_
  refine takeC (i := 1) (v := .int .i64 x1) rfl (by kernel_rfl) (by kernel_rfl) (by kernel_rfl) (by kernel_rfl) (by kernel_rfl) (fun _ _ _ h => h) (Or.inl ⟨by kernel_rfl, fun V hV => by obtain ⟨r0, r1, r2, r3, r4⟩ := hV; go_simp⟩) ?_
  refine takeC (i := 2) (v := .pointer (some ⟨w.heap.size, 2, none⟩)) rfl (by kernel_rfl) (by kernel_rfl) (by kernel_rfl) (by kernel_rfl) (by kernel_rfl) (fun _ _ _ h => h) (Or.inl ⟨by kernel_rfl, fun V hV => by obtain ⟨r0, r1, r2, r3, r4⟩ := hV; go_simp⟩) ?_
  refine takeC (i := 3) (v := .int .i64 x2) rfl (by kernel_rfl) (by kernel_rfl) (by kernel_rfl) (by kernel_rfl) (by kernel_rfl) (fun _ _ _ h => h) (Or.inl ⟨by kernel_rfl, fun V hV => by obtain ⟨r0, r1, r2, r3, r4⟩ := hV; go_simp⟩) ?_
  refine takeC (i := 4) (v := .agg #[.int .i64 x0, .int .i64 x1, .int .i64 x2, .int .i64 x3, .int .i64 x4]) rfl (by kernel_rfl) (by kernel_rfl) (by kernel_rfl) (by kernel_rfl) (by kernel_rfl) (fun _ _ _ h => h) (Or.inl ⟨by kernel_rfl, fun V hV => by obtain ⟨r0, r1, r2, r3, r4⟩ := hV; go_simp⟩) ?_
  refine consC (i := 5) (by kernel_rfl) (by kernel_rfl) ⟨dx0, dx1, dx2, dx3, dx4⟩ rfl (fun K hK => ?_)
  go_wp2_with fail
  refine (pbhE_any (.slice none 0 0) 0 [] x0 x1 x2 x3 x4 w.heap.size _ (World.ownsRow_nil _ _ _ _) (by omega) (by omega)).mono ?_
  rintro e1 w1 ⟨v1, rfl, ho1, hg1, _⟩
  go_wp2_with fail
  have g1 : wd.grownBy w1 none := hg1
  have b1 : Below wd.heap.size wd w1 := (Below.refl _ wd).grown g1 (Nat.le_refl _) (fun r e => by cases e)
  obtain ⟨a1, c1, rfl⟩ := own_shape ho1
  have Ex := Dx.below b1
  have EY := DY.below b1
  have ex0 := Ex.cell 0 _ rfl
  have ex1 := Ex.cell 1 _ rfl
  have ex2 := Ex.cell 2 _ rfl
  have ex3 := Ex.cell 3 _ rfl
  have ex4 := Ex.cell 4 _ rfl
  have BW : Below w.heap.size w w1 := bel_trans Bd b1
  refine takeC (i := 6) (v := .agg #[.int .i64 x1, .int .i64 x2, .slice a1 1 c1]) rfl (by kernel_rfl) (by kernel_rfl) (by kernel_rfl) (by kernel_rfl) (by kernel_rfl) (fun _ _ _ h => h) (Or.inl ⟨by kernel_rfl, fun V hV => by obtain ⟨r0, r1, r2, r3, r4⟩ := hV; go_simp⟩) ?_
  have k0 := EY.cell 0 _ rfl
  have k1 := EY.cell 1 _ rfl
  have k2 := EY.cell 2 _ rfl
  have m0 := EY.frozen 0
  have m1 := EY.frozen 1
  have m2 := EY.frozen 2
  refine lastC (by kernel_rfl) (by kernel_rfl) ⟨ex0, ex1, ex2, ex3, ex4⟩ (of_decide_eq_true (by kernel_rfl)) ?_
  refine any_seqI [7] [_] _ _ _ rfl (by kernel_rfl) ?_
  go_wp2_with fail
  generalize hW : World.setCell _ _ _ = W
  have RW : SBox W (w.heap.size + 1) 50 #[.int .i64 x1, .int .i64 x2, .slice a1 1 c1] := by rw [← hW]; exact SBox.put3 EY _ _ _
  have BZ : Below w.heap.size w W := by rw [← hW]; exact ((BW.setCell (p := ⟨w.heap.size + 1, 0, none⟩) (by first | (simp; done) | (simp; omega)) _).setCell (p := ⟨w.heap.size + 1, 1, none⟩) (by first | (simp; done) | (simp; omega)) _).setCell (p := ⟨w.heap.size + 1, 2, none⟩) (by first | (simp; done) | (simp; omega)) _
  have hRow : W.ownsRow w.heap.size 24 5 (.slice a1 1 c1) 1 (recV edV [(x0, x1, x2, x3, x4)]) := by
    rw [← hW]
    have hne : (Value.slice a1 1 c1).ownBlock ≠ some (w.heap.size + 1) := fun e => block_not_row EY (by decide) ho1 e.symm
    exact owns_set3 ho1 0 hne _ _ _
  exact bodyPost_ret (v := .agg #[.int .i64 x1, .int .i64 x2, .slice a1 1 c1]) (results_row1 Try.results61 _ _ (w.heap.size + 1) 50 _ (0, 0) _ rfl RW Try.underlying50 rfl size_st) rfl ⟨_, _, rfl, BZ, hRow⟩
set_option maxHeartbeats 2000000 in
theorem pjoined_any (x0 x1 x2 x3 x4 y0 y1 y2 y3 y4 : Int) (w : World) :
    Calls Try.prog 62 #[.agg #[.int .i64 x0, .int .i64 x1, .int .i64 x2, .int .i64 x3, .int .i64 x4], .agg #[.int .i64 y0, .int .i64 y1, .int .i64 y2, .int .i64 y3, .int .i64 y4]] w fun e w' => OneR w x1 y2 [(x0, x1, x2, x3, x4), (y0, y1, y2, y3, y4)] e w' := by
  have Xx := ((SBox.new w 24 #[.int .i64 x0, .int .i64 x1, .int .i64 x2, .int .i64 x3, .int .i64 x4]).alloc (.cells #[.int .i64 y0, .int .i64 y1, .int .i64 y2, .int .i64 y3, .int .i64 y4] 24)).alloc (.cells #[.int .i64 0, .int .i64 0, .slice none 0 0] 50)
  have Xy := (SBox.new (w.alloc (.cells #[.int .i64 x0, .int .i64 x1, .int .i64 x2, .int .i64 x3, .int .i64 x4] 24)) 24 #[.int .i64 y0, .int .i64 y1, .int .i64 y2, .int .i64 y3, .int .i64 y4]).alloc (.cells #[.int .i64 0, .int .i64 0, .slice none 0 0] 50)
  have Y := SBox.new ((w.alloc (.cells #[.int .i64 x0, .int .i64 x1, .int .i64 x2, .int .i64 x3, .int .i64 x4] 24)).alloc (.cells #[.int .i64 y0, .int .i64 y1, .int .i64 y2, .int .i64 y3, .int .i64 y4] 24)) 50 #[.int .i64 0, .int .i64 0, .slice none 0 0]
  simp only [World.size_alloc] at Xx Xy Y
  have B0 : Below w.heap.size w (((w.alloc (.cells #[.int .i64 x0, .int .i64 x1, .int .i64 x2, .int .i64 x3, .int .i64 x4] 24)).alloc (.cells #[.int .i64 y0, .int .i64 y1, .int .i64 y2, .int .i64 y3, .int .i64 y4] 24)).alloc (.cells #[.int .i64 0, .int .i64 0, .slice none 0 0] 50)) := (((Below.refl _ w).alloc (Nat.le_refl _) _).alloc (by simp) _).alloc (by simp; omega) _
  have S0 : (((w.alloc (.cells #[.int .i64 x0, .int .i64 x1, .int .i64 x2, .int .i64 x3, .int .i64 x4] 24)).alloc (.cells #[.int .i64 y0, .int .i64 y1, .int .i64 y2, .int .i64 y3, .int .i64 y4] 24)).alloc (.cells #[.int .i64 0, .int .i64 0, .slice none 0 0] 50)).heap.size = w.heap.size + 1 + 1 + 1 := by simp
  go_enter Try.func62, Try.ntmps62
  go_wp2_with fail
  refine wp_region_any (by kernel_rfl) ?_
  change wpAny _ _ _ _ _ _ _ (World.drew _)
  generalize hwd : World.drew _ = wd
  have Bd : Below w.heap.size w wd := by rw [← hwd]; exact B0.drew
  have Sd : wd.heap.size = w.heap.size + 1 + 1 + 1 := by rw [← hwd]; exact S0
  have Dx : SBox wd (w.heap.size) 24 #[.int .i64 x0, .int .i64 x1, .int .i64 x2, .int .i64 x3, .int .i64 x4] := by rw [← hwd]; exact Xx
  have Dy : SBox wd (w.heap.size + 1) 24 #[.int .i64 y0, .int .i64 y1, .int .i64 y2, .int .i64 y3, .int .i64 y4] := by rw [← hwd]; exact Xy
  have DY : SBox wd (w.heap.size + 1 + 1) 50 #[.int .i64 0, .int .i64 0, .slice none 0 0] := by rw [← hwd]; exact Y
  clear hwd B0 S0 Xx Xy Y
  have dx0 := Dx.cell 0 _ rfl
  have dx1 := Dx.cell 1 _ rfl
  have dx2 := Dx.cell 2 _ rfl
  have dx3 := Dx.cell 3 _ rfl
  have dx4 := Dx.cell 4 _ rfl
  have dy0 := Dy.cell 0 _ rfl
  have dy1 := Dy.cell 1 _ rfl
  have dy2 := Dy.cell 2 _ rfl
  have dy3 := Dy.cell 3 _ rfl
  have dy4 := Dy.cell 4 _ rfl
  refine any_of_C (C := fun V => V.cell? ⟨w.heap.size, 0, none⟩ = some (.int .i64 x0) ∧ V.cell? ⟨w.heap.size, 1, none⟩ = some (.int .i64 x1) ∧ V.cell? ⟨w.heap.size, 2, none⟩ = some (.int .i64 x2) ∧ V.cell? ⟨w.heap.size, 3, none⟩ = some (.int .i64 x3) ∧ V.cell? ⟨w.heap.size, 4, none⟩ = some (.int .i64 x4) ∧ V.cell? ⟨w.heap.size + 1, 0, none⟩ = some (.int .i64 y0) ∧ V.cell? ⟨w.heap.size + 1, 1, none⟩ = some (.int .i64 y1) ∧ V.cell? ⟨w.heap.size + 1, 2, none⟩ = some (.int .i64 y2) ∧ V.cell? ⟨w.heap.size + 1, 3, none⟩ = some (.int .i64 y3) ∧ V.cell? ⟨w.heap.size + 1, 4, none⟩ = some (.int .i64 y4)) 9 _ _ _ _ ?_
  refine takeC (i := 0) (v := .pointer (some ⟨w.heap.size, 1, none⟩)) rfl (by kernel_rfl) (by kernel_rfl) (by kernel_rfl) (by kernel_rfl) (by kernel_rfl) (fun _ _ _ h => h) (Or.inl ⟨by kernel_rfl, fun V hV => by obtain ⟨r0, r1, r2, r3, r4, r5, r6, r7, r8, r9⟩ := hV; go_simp⟩) ?_
  refine takeC (i := 1) (v := .int .i64 x1) rfl (by kernel_rfl) (by kernel_rfl) (by kernel_rfl) (by kernel_rfl) (by kernel_rfl) (fun _ _ _ h => h) (Or.inl ⟨by kernel_rfl, fun V hV => by obtain ⟨r0, r1, r2, r3, r4, r5, r6, r7, r8, r9⟩ := hV; go_simp⟩) ?_
  refine takeC (i := 2) (v := .pointer (some ⟨w.heap.size + 1, 2, none⟩)) rfl (by kernel_rfl) (by kernel_rfl) (by kernel_rfl) (by kernel_rfl) (by kernel_rfl) (fun _ _ _ h => h) (Or.inl ⟨by kernel_rfl, fun V hV => by obtain ⟨r0, r1, r2, r3, r4, r5, r6, r7, r8, r9⟩ := hV; go_simp⟩) ?_
  refine takeC (i := 3) (v := .int .i64 y2) rfl (by kernel_rfl) (by kernel_rfl) (by kernel_rfl) (by kernel_rfl) (by kernel_rfl) (fun _ _ _ h => h) (Or.inl ⟨by kernel_rfl, fun V hV => by obtain ⟨r0, r1, r2, r3, r4, r5, r6, r7, r8, r9⟩ := hV; go_simp⟩) ?_
  refine takeC (i := 4) (v := .agg #[.int .i64 x0, .int .i64 x1, .int .i64 x2, .int .i64 x3, .int .i64 x4]) rfl (by kernel_rfl) (by kernel_rfl) (by kernel_rfl) (by kernel_rfl) (by kernel_rfl) (fun _ _ _ h => h) (Or.inl ⟨by kernel_rfl, fun V hV => by obtain ⟨r0, r1, r2, r3, r4, r5, r6, r7, r8, r9⟩ := hV; go_simp⟩) ?_
  refine takeC (i := 6) (v := .agg #[.int .i64 y0, .int .i64 y1, .int .i64 y2, .int .i64 y3, .int .i64 y4]) rfl (by kernel_rfl) (by kernel_rfl) (by kernel_rfl) (by kernel_rfl) (by kernel_rfl) (fun _ _ _ h => h) (Or.inl ⟨by kernel_rfl, fun V hV => by obtain ⟨r0, r1, r2, r3, r4, r5, r6, r7, r8, r9⟩ := hV; go_simp⟩) ?_
  refine consC (i := 5) (by kernel_rfl) (by kernel_rfl) ⟨dx0, dx1, dx2, dx3, dx4, dy0, dy1, dy2, dy3, dy4⟩ rfl (fun K hK => ?_)
  go_wp2_with fail
  refine (pbhE_any (.slice none 0 0) 0 [] x0 x1 x2 x3 x4 w.heap.size _ (World.ownsRow_nil _ _ _ _) (by omega) (by omega)).mono ?_
  rintro e1 w1 ⟨v1, rfl, ho1, hg1, at1⟩
  go_wp2_with fail
  obtain ⟨a1, c1, rfl⟩ := own_shape ho1
  have g1 : wd.grownBy w1 none := hg1
  have far1 : ∀ g, (Value.slice a1 1 c1).ownBlock = some g → wd.heap.size ≤ g := fun g e => at1.elim (fun x => by rw [e] at x; cases x) (fun ⟨g', x, y⟩ => by rw [e] at x; cases x; exact y)
  have b1 : Below wd.heap.size wd w1 := (Below.refl _ wd).grown g1 (Nat.le_refl _) (fun r e => by cases e)
  have Ex := Dx.below b1
  have Ey := Dy.below b1
  have EY := DY.below b1
  have ex0 := Ex.cell 0 _ rfl
  have ex1 := Ex.cell 1 _ rfl
  have ex2 := Ex.cell 2 _ rfl
  have ex3 := Ex.cell 3 _ rfl
  have ex4 := Ex.cell 4 _ rfl
  have ey0 := Ey.cell 0 _ rfl
  have ey1 := Ey.cell 1 _ rfl
  have ey2 := Ey.cell 2 _ rfl
  have ey3 := Ey.cell 3 _ rfl
  have ey4 := Ey.cell 4 _ rfl
  refine consC (i := 7) (by kernel_rfl) (by kernel_rfl) ⟨ex0, ex1, ex2, ex3, ex4, ey0, ey1, ey2, ey3, ey4⟩ rfl (fun K hK => ?_)
  go_wp2_with fail
  refine (pbhE_any (.slice a1 1 c1) 1 _ y0 y1 y2 y3 y4 w.heap.size _ ho1 (by have := b1.size; omega) (by omega)).mono ?_
  rintro e2 w2 ⟨v2, rfl, ho2, hg2, hat2⟩
  go_wp2_with fail
  obtain ⟨a2, c2, rfl⟩ := own_shape ho2
  have b2 : Below w.heap.size w1 w2 := (Below.refl _ w1).grown hg2 (by have := b1.size; omega) (fun r e => by have := own_far ho1 r e; exact this)
  have n2 : ∀ B t c, SBox w1 B t c → t ≠ 24 → SBox w2 B t c := fun B t c h ht => (hg2.block B h.lt (block_not_row h ht ho1)).trans h
  have n3 : ∀ B c, SBox w1 B 24 c → B < wd.heap.size → SBox w2 B 24 c := fun B c h hl => (hg2.block B h.lt (fun e => by have := far1 B e.symm; omega)).trans h
  have Fx := n3 _ _ Ex (by omega)
  have Fy := n3 _ _ Ey (by omega)
  have FY := n2 _ _ _ EY (by decide)
  have fx0 := Fx.cell 0 _ rfl
  have fx1 := Fx.cell 1 _ rfl
  have fx2 := Fx.cell 2 _ rfl
  have fx3 := Fx.cell 3 _ rfl
  have fx4 := Fx.cell 4 _ rfl
  have fy0 := Fy.cell 0 _ rfl
  have fy1 := Fy.cell 1 _ rfl
  have fy2 := Fy.cell 2 _ rfl
  have fy3 := Fy.cell 3 _ rfl
  have fy4 := Fy.cell 4 _ rfl
  have BW : Below w.heap.size w w2 := (bel_trans Bd b1).trans b2
  refine takeC (i := 8) (v := .agg #[.int .i64 x1, .int .i64 y2, .slice a2 2 c2]) rfl (by kernel_rfl) (by kernel_rfl) (by kernel_rfl) (by kernel_rfl) (by kernel_rfl) (fun _ _ _ h => h) (Or.inl ⟨by kernel_rfl, fun V hV => by obtain ⟨r0, r1, r2, r3, r4, r5, r6, r7, r8, r9⟩ := hV; go_simp⟩) ?_
  have k0 := FY.cell 0 _ rfl
  have k1 := FY.cell 1 _ rfl
  have k2 := FY.cell 2 _ rfl
  have m0 := FY.frozen 0
  have m1 := FY.frozen 1
  have m2 := FY.frozen 2
  refine lastC (by kernel_rfl) (by kernel_rfl) ⟨fx0, fx1, fx2, fx3, fx4, fy0, fy1, fy2, fy3, fy4⟩ (of_decide_eq_true (by kernel_rfl)) ?_
  refine any_seqI [9] [_] _ _ _ rfl (by kernel_rfl) ?_
  go_wp2_with fail
  generalize hW : World.setCell _ _ _ = W
  have RW : SBox W (w.heap.size + 1 + 1) 50 #[.int .i64 x1, .int .i64 y2, .slice a2 2 c2] := by rw [← hW]; exact SBox.put3 FY _ _ _
  have BZ : Below w.heap.size w W := by rw [← hW]; exact ((BW.setCell (p := ⟨w.heap.size + 1 + 1, 0, none⟩) (by first | (simp; done) | (simp; omega)) _).setCell (p := ⟨w.heap.size + 1 + 1, 1, none⟩) (by first | (simp; done) | (simp; omega)) _).setCell (p := ⟨w.heap.size + 1 + 1, 2, none⟩) (by first | (simp; done) | (simp; omega)) _
  have hRow : W.ownsRow w.heap.size 24 5 (.slice a2 2 c2) 2 (recV edV [(x0, x1, x2, x3, x4), (y0, y1, y2, y3, y4)]) := by
    rw [← hW]
    have hne : (Value.slice a2 2 c2).ownBlock ≠ some (w.heap.size + 1 + 1) := fun e => block_not_row FY (by decide) ho2 e.symm
    exact owns_set3 ho2 0 hne _ _ _
  exact bodyPost_ret (v := .agg #[.int .i64 x1, .int .i64 y2, .slice a2 2 c2]) (results_row1 Try.results62 _ _ (w.heap.size + 1 + 1) 50 _ (0, 0) _ rfl RW Try.underlying50 rfl size_st) rfl ⟨_, _, rfl, BZ, hRow⟩
end Go.Proofs.Yteehpkkkagdckaa
namespace Go.Proofs.Yteehpkkkagdckaa
set_option maxRecDepth 100000
open Go.RowKit Go.Maps
set_option linter.unusedVariables false
attribute [local go_sem] ba_size
/-- What All holds while edges are gathered. -/
structure GSt (w : World) (sl v : Value) (L : List Ed) (W : World) : Prop where
  below : Below w.heap.size w W
  size : w.heap.size + 1 + 1 ≤ W.heap.size
  b0 : Boxed W w.heap.size 22 sl
  bv : Boxed W (w.heap.size + 1) 28 v
  row : W.ownsRow w.heap.size 24 5 v L.length (recV edV L)
  far : ∀ g, v.ownBlock = some g → w.heap.size + 1 + 1 ≤ g
theorem GSt.bel {w : World} {sl v : Value} {L : List Ed} {W W' : World} (h : GSt w sl v L W) (hb : Below W.heap.size W W') : GSt w sl v L W' :=
  ⟨bel_trans h.below hb, Nat.le_trans h.size hb.size, boxed_below7 h.b0 hb, boxed_below7 h.bv hb, owns_below h.row hb, h.far⟩
/-- All that is neither edges nor a variable of such is as it was. -/
def FrG (W W' : World) : Prop := W.heap.size ≤ W'.heap.size ∧ ∀ (j : Nat) (cs : Array Value) (t : TypeId) (fr : Nat × Nat), t ≠ 24 → t ≠ 28 → W.heap[j]? = some (.cells cs t fr) → W'.heap[j]? = some (.cells cs t fr)
theorem FrG.refl (W : World) : FrG W W := ⟨Nat.le_refl _, fun _ _ _ _ _ _ h => h⟩
theorem FrG.trans {a b c : World} (h : FrG a b) (k : FrG b c) : FrG a c := ⟨Nat.le_trans h.1 k.1, fun j cs t fr h1 h2 h3 => k.2 j cs t fr h1 h2 (h.2 j cs t fr h1 h2 h3)⟩
theorem FrG.of_below {W W' : World} (hb : Below W.heap.size W W') : FrG W W' := ⟨hb.size, fun j cs t fr _ _ h3 => (hb.block j (Array.getElem?_eq_some_iff.1 h3).1).trans h3⟩
theorem FrG.boxed {W W' : World} {b t : Nat} {v : Value} (h : FrG W W') (hb : Boxed W b t v) (h1 : t ≠ 24) (h2 : t ≠ 28) : Boxed W' b t v := h.2 b _ t _ h1 h2 hb
theorem FrG.owns {W W' : World} {B e k n : Nat} {v : Value} {xs : List Value} (h : FrG W W') (ho : W.ownsRow B e k v n xs) (h1 : e ≠ 24) (h2 : e ≠ 28) : W'.ownsRow B e k v n xs := by
  refine ⟨ho.1, ?_⟩
  rcases ho.2 with hh | ⟨g, cap, cur, hv, hb, hg, rest⟩
  · exact .inl hh
  · exact .inr ⟨g, cap, cur, hv, hb, h.2 g _ _ _ h1 h2 hg, rest⟩
def gEd (h : List Ev) (k : Int) (i j : Nat) : List Ed := if (ev h i).2.1 = (ev h j).2.1 then [] else [(k, (ev h i).2.1, (ev h j).2.1, (i : Int), (j : Int))]
theorem gEd_len (h : List Ev) (k : Int) (i j : Nat) : (gEd h k i j).length ≤ 1 := by unfold gEd; by_cases e : (ev h i).2.1 = (ev h j).2.1 <;> simp [e]
def GRes (w : World) (sl : Value) (W : World) (L : List Ed) (e : Ending) (W' : World) : Prop := e = .returned (.tuple #[]) ∧ FrG W W' ∧ ∃ v', GSt w sl v' L W'
theorem GSt.gain {w : World} {sl v v' : Value} {L L' : List Ed} {W W' : World} (h : GSt w sl v L W) (hown : W'.ownsRow w.heap.size 24 5 v' L'.length (recV edV L')) (hg : W.grownBy W' v.ownBlock) (hat : v'.ownBlock = v.ownBlock ∨ ∃ g, v'.ownBlock = some g ∧ W.heap.size ≤ g) :
    GSt w sl v' L' (W'.setCell ⟨w.heap.size + 1, 0, none⟩ v') ∧ FrG W (W'.setCell ⟨w.heap.size + 1, 0, none⟩ v') := by
  have hs := h.size
  have hfar : ∀ g, v'.ownBlock = some g → w.heap.size + 1 + 1 ≤ g := fun g hv => by
    rcases hat with e | ⟨g', e, e2⟩
    · exact h.far g (by rw [← e]; exact hv)
    · rw [hv] at e
      have := Option.some.inj e
      omega
  have o : ∀ j, j < w.heap.size + 1 + 1 → some j ≠ v.ownBlock := fun j hj e => by have := h.far j e.symm; omega
  have hsz := hg.size
  have hb : Below w.heap.size w W' := h.below.grown hg (by omega) (fun r e => by have := h.far r e; omega)
  have bv' := h.bv.kept hg (o _ (by omega))
  refine ⟨⟨hb.setCell (p := ⟨w.heap.size + 1, 0, none⟩) (Nat.le_add_right _ _) _, by simp; omega, ?_, bv'.set _, owns_keep7 (g := w.heap.size + 1) (j := 0) hown _ (fun e => by have := hfar _ e.symm; omega), hfar⟩, by simp; omega, fun j cs t fr h1 h2 h3 => ?_⟩
  · show _ = _
    rw [Below.heap_setCell _ _ _ _ (show w.heap.size ≠ w.heap.size + 1 by omega)]
    exact h.b0.kept hg (o _ (by omega))
  · have hlt := (Array.getElem?_eq_some_iff.1 h3).1
    have n1 : j ≠ w.heap.size + 1 := fun e => by
      subst e
      have := h.bv
      unfold Boxed at this
      rw [h3] at this
      simp only [Option.some.injEq, Obj.cells.injEq] at this
      exact h2 this.2.1
    have n2 : some j ≠ v.ownBlock := by
      rcases h.row.2 with ⟨e, _⟩ | ⟨g, cp, cur, e, _, hgb, _⟩
      · rw [e]; simp [Value.ownBlock]
      · rw [e]
        intro e2
        have e3 : j = g := Option.some.inj e2
        subst e3
        rw [h3] at hgb
        simp only [Option.some.injEq, Obj.cells.injEq] at hgb
        exact h1 hgb.2.1
    rw [Below.heap_setCell _ _ _ _ n1, hg.block j hlt n2]
    exact h3
set_option maxHeartbeats 2000000 in
theorem pgather_any (h : List Ev) (w : World) (a : Option Addr) (cap : Nat) (hT : IsEvs w (.slice a h.length cap) h) (v : Value) (L : List Ed) (W : World) (hS : GSt w (.slice a h.length cap) v L W) (k : Int) (i j : Nat) (hi : i < h.length) (hj : j < h.length) (hL : L.length ≤ 1000000) :
    Calls Try.prog 26 #[.int .i64 k, .int .i64 (i : Int), .int .i64 (j : Int), .pointer (some ⟨w.heap.size, 0, none⟩), .pointer (some ⟨w.heap.size + 1, 0, none⟩)] W fun e W' => GRes w (.slice a h.length cap) W (L ++ gEd h k i j) e W' := by
  obtain ⟨a', cap', e1, h1, h2, h3, HC⟩ := hT.reads
  obtain ⟨rfl, rfl⟩ : a' = a ∧ cap' = cap := by simpa [eq_comm] using e1
  clear e1
  obtain ⟨bb, off, rfl, HQ⟩ := HC.out (by omega)
  obtain ⟨_, c1, _, _⟩ := HQ.out i hi _ hS.below
  obtain ⟨_, d1, _, _⟩ := HQ.out j hj _ hS.below
  unfold gEd
  obtain ⟨x1, hx⟩ : ∃ x, (ev h i).2.1 = x := ⟨_, rfl⟩
  obtain ⟨y1, hy⟩ : ∃ x, (ev h j).2.1 = x := ⟨_, rfl⟩
  rw [hx] at c1 ⊢
  rw [hy] at d1 ⊢
  obtain ⟨n, hn⟩ : ∃ n, h.length = n := ⟨_, rfl⟩
  rw [hn] at hS hi hj h1 h3 ⊢
  clear hx hy hT HC HQ hn
  have p0 := hS.b0.cell
  have ji : (i : Int) < (n : Int) := by omega
  have jj : (j : Int) < (n : Int) := by omega
  by_cases e : x1 = y1
  · subst e
    rw [if_pos rfl, List.append_nil]
    go_enter Try.func26, Try.ntmps26
    go_wp2_with fail
    go_quiet (fail)
    go_wp2_with fail
    go_end0
    have bq := below_drewN (Below.refl W.heap.size W) nq
    exact ⟨rfl, FrG.of_below bq, v, hS.bel bq⟩
  · rw [if_neg e]
    have e2 : (x1 != y1) = true := bne_iff_ne.2 e
    clear e
    go_enter Try.func26, Try.ntmps26
    go_wp2_with fail
    go_quiet (fail)
    generalize hV : World.drewN _ _ = V
    have bq : Below W.heap.size W V := by rw [← hV]; exact below_drewN (Below.refl W.heap.size W) nq
    clear hV p0 c1 d1
    have hS2 := hS.bel bq
    have q1 := hS2.bv.cell
    obtain ⟨ad, cc, rfl⟩ := own_shape hS2.row
    go_wp2_with fail
    refine (pbhE_any _ L.length _ k x1 y1 (i : Int) (j : Int) w.heap.size _ hS2.row hS2.below.size (by omega)).mono ?_
    rintro e3 w3 ⟨r3, rfl, hown3, hg3, hat3⟩
    have hown4 : w3.ownsRow w.heap.size 24 5 r3 (L ++ [(k, x1, y1, (i : Int), (j : Int))]).length (recV edV (L ++ [(k, x1, y1, (i : Int), (j : Int))])) := by rw [List.length_append, recV_append]; exact hown3
    obtain ⟨g1, g2⟩ := hS2.gain hown4 hg3 hat3
    have bv3 := hS2.bv.kept hg3 (fun e => by have := hS2.far _ e.symm; omega)
    have q2 := bv3.cell
    have q3 := bv3.frozen
    obtain ⟨ad3, cc3, rfl⟩ := own_shape hown3
    go_wp2_with fail
    go_end0
    exact ⟨rfl, (FrG.of_below bq).trans g2, _, g1⟩
end Go.Proofs.Yteehpkkkagdckaa
namespace Go.Proofs.Yteehpkkkagdckaa
set_option maxRecDepth 100000
open Go.RowKit Go.Maps
set_option linter.unusedVariables false
attribute [local go_sem] ba_size
abbrev readF10 (b c : Nat) : Value := .func (.func 69) #[] #[.pointer (some ⟨b, 0, none⟩), .pointer (some ⟨c, 0, none⟩)]
set_option maxHeartbeats 2000000 in
theorem pread1_any (h : List Ev) (sl : Value) (W : World) (hT : IsEvs W sl h) (b c q p : Nat) (hq : q < h.length) (hp : p < h.length) (B1 : Boxed W b 22 sl) (B2 : Boxed W c 3 (.int .i64 (q : Int))) :
    Calls Try.prog 69 #[.int .i64 (p : Int), .pointer (some ⟨b, 0, none⟩), .pointer (some ⟨c, 0, none⟩)] W fun e W' => e = .returned (.bool (decide ((ev h p).2.2.2 = (ev h q).2.2.2))) ∧ Below W.heap.size W W' := by
  obtain ⟨a, cap, rfl, h1, h2, h3, HC⟩ := hT.reads
  obtain ⟨bb, off, rfl, HQ⟩ := HC.out (by omega)
  obtain ⟨_, _, _, c3⟩ := HQ.out q hq _ (Below.refl _ _)
  obtain ⟨_, _, _, d3⟩ := HQ.out p hp _ (Below.refl _ _)
  obtain ⟨x, hx⟩ : ∃ x, (ev h p).2.2.2 = x := ⟨_, rfl⟩
  obtain ⟨y, hy⟩ : ∃ x, (ev h q).2.2.2 = x := ⟨_, rfl⟩
  rw [hx] at d3 ⊢
  rw [hy] at c3 ⊢
  obtain ⟨n, hn⟩ : ∃ n, h.length = n := ⟨_, rfl⟩
  rw [hn] at B1 hq hp h1 h3
  clear hx hy hT HC HQ hn
  have p0 := B1.cell
  have p1 := B2.cell
  have ji : (q : Int) < (n : Int) := by omega
  have jj : (p : Int) < (n : Int) := by omega
  by_cases e : x = y
  · subst e
    rw [decide_eq_true rfl]
    go_enter Try.func69, Try.ntmps69
    go_wp2_with fail
    go_quiet (fail)
    go_wp2_with fail
    go_ret
    exact ⟨rfl, below_drewN (Below.refl _ _) nq⟩
  · rw [decide_eq_false e]
    have e2 : (x == y) = false := beq_eq_false_iff_ne.2 e
    go_enter Try.func69, Try.ntmps69
    go_wp2_with fail
    go_quiet (fail)
    go_wp2_with fail
    go_ret
    exact ⟨rfl, below_drewN (Below.refl _ _) nq⟩
set_option maxHeartbeats 2000000 in
theorem pidx_any (h : List Ev) (sl vs : Value) (V : List Nat) (W : World) (hT : IsEvs W sl h) (b c q : Nat) (hq : q < h.length) (hV : ∀ x ∈ V, x < h.length) (hvs : IsInts W vs (V.map Int.ofNat)) (B1 : Boxed W b 22 sl) (B2 : Boxed W c 3 (.int .i64 (q : Int))) :
    Calls Try.prog 68 #[vs, readF10 b c] W fun e W' => e = .returned (.int .i64 (oI (verAt h V q))) ∧ Below W.heap.size W W' := by
  have C := fun (p : Nat) (hp : p < h.length) V' (hV' : Below W.heap.size W V') => pread1_any h sl V' (hT.below hV') b c q p hq hp (boxed_below7 B1 hV') (boxed_below7 B2 hV')
  obtain ⟨a, cap, rfl, h1, h2, h3, HC⟩ := hvs.reads
  rw [List.length_map] at h1 h3 HC ⊢
  rw [verAt_is]
  obtain ⟨n, hn⟩ : ∃ n, V.length = n := ⟨_, rfl⟩
  have HN : Hid (V.length = n) := hn
  rw [hn] at h1 h3 ⊢
  clear hn hvs
  go_enter Try.func68, Try.ntmps68
  go_wp2_with fail
  go_loopw [8] (fun i wr => ∃ k : Nat, k ≤ n ∧ i = .int .i64 k ∧ Hid (∀ j, j < k → isVer h V q j = false) ∧ Below W.heap.size W wr) (fun i _ => n - (intOf i).toNat)
  case atStart => exact ⟨0, Nat.zero_le _, rfl, fun j hj => absurd hj (by omega), Below.refl _ _⟩
  case round =>
    obtain ⟨k, hk, rfl, HF, hB⟩ := hrel
    by_cases hlt : k < n
    · have j0 : (k : Int) < (n : Int) := by omega
      have hkl : k < V.length := by have := HN.out; omega
      obtain ⟨bb, off, rfl, HQ⟩ := HC.out (by omega)
      have c0 := HQ.out k hkl _ hB
      have e0 : (V.map Int.ofNat).getD k 0 = (vAt V k : Int) := by
        unfold vAt
        rw [List.getD_eq_getElem?_getD, List.getD_eq_getElem?_getD, List.getElem?_map, List.getElem?_eq_getElem hkl]
        rfl
      rw [e0] at c0
      have hp : vAt V k < h.length := by
        refine hV _ ?_
        unfold vAt
        rw [List.getD_eq_getElem?_getD, List.getElem?_eq_getElem hkl]
        exact List.getElem_mem _
      have D := C (vAt V k) hp _ hB
      have HI : Hid (isVer h V q k = decide ((ev h (vAt V k)).2.2.2 = (ev h q).2.2.2)) := rfl
      obtain ⟨p, hpp⟩ : ∃ p, vAt V k = p := ⟨_, rfl⟩
      rw [hpp] at c0 D HI
      obtain ⟨bl, hbl⟩ : ∃ bl, decide ((ev h p).2.2.2 = (ev h q).2.2.2) = bl := ⟨_, rfl⟩
      rw [hbl] at D HI
      clear hbl hpp hp e0
      cases bl with
      | true =>
        go_wp2_with fail
        refine D.mono ?_
        rintro e1 w1 ⟨rfl, b1⟩
        have HE : Hid (fi (isVer h V q) n = some k) := (fi_some _ _ _).2 ⟨hlt, HI.out, HF.out⟩
        go_wp2_with fail
        go_ret
        refine ⟨?_, bel_trans hB b1⟩
        rw [HE.out]
        rfl
      | false =>
        go_wp2_with fail
        refine D.mono ?_
        rintro e1 w1 ⟨rfl, b1⟩
        go_wp2_with fail
        refine ⟨⟨k + 1, by omega, by first | go_num | simp, ?_, bel_trans hB b1⟩, by simp [intOf]; omega⟩
        intro j hj
        rcases Nat.lt_succ_iff_lt_or_eq.1 hj with h' | rfl
        · exact HF.out j h'
        · exact HI.out
    · obtain rfl : k = n := by omega
      have jq : ¬ (k : Int) < (k : Int) := by omega
      have HE : Hid (fi (isVer h V q) k = none) := (fi_none _ _).2 HF.out
      go_wp2_with fail
      go_ret
      refine ⟨?_, hB⟩
      rw [HE.out]
      rfl
end Go.Proofs.Yteehpkkkagdckaa
namespace Go.Proofs.Yteehpkkkagdckaa
set_option maxRecDepth 100000
open Go.RowKit Go.Maps
set_option linter.unusedVariables false
attribute [local go_sem] ba_size
abbrev gatF (w : World) : Value := .func (.func 26) #[] #[.pointer (some ⟨w.heap.size, 0, none⟩), .pointer (some ⟨w.heap.size + 1, 0, none⟩)]
theorem intsV_map10 (L : List Int) : recV intV L = L.map (Value.int .i64) := by
  induction L with
  | nil => rfl
  | cons x l ih => rw [show x :: l = [x] ++ l from rfl, recV_append, ih]; rfl
theorem ver_cell {W : World} {B g n cc m : Nat} {V : List Nat} (hn : V.length = n) (h : W.ownsRow B 3 1 (.slice (some ⟨g, 0, none⟩) n cc) n (recV intV (V.map Int.ofNat))) (hm : m < n) : W.cell? ⟨g, m, none⟩ = some (.int .i64 (vAt V m : Int)) := by
  have c := h.cellAt m (by omega)
  rw [intsV_map10, List.map_map, List.getElem?_map, List.getElem?_eq_getElem (by omega)] at c
  rw [c]
  unfold vAt
  rw [List.getD_eq_getElem?_getD, List.getElem?_eq_getElem (by omega)]
  rfl
theorem own_some {W : World} {B e k n : Nat} {v : Value} {xs : List Value} (h : W.ownsRow B e k v n xs) (h0 : 0 < n) : ∃ g cc, v = .slice (some ⟨g, 0, none⟩) n cc ∧ n ≤ cc ∧ cc ≤ maxLen := by
  rcases h.2 with ⟨_, h0'⟩ | ⟨g, cap, cur, rfl, _, _, h1, h2, _⟩
  · omega
  · exact ⟨g, cap, rfl, h1, h2⟩
theorem vAt_mem (V : List Nat) (m : Nat) (hm : m < V.length) : vAt V m ∈ V := by
  unfold vAt
  rw [List.getD_eq_getElem?_getD, List.getElem?_eq_getElem hm]
  exact List.getElem_mem _
theorem g_read (h : List Ev) (V : List Nat) (i m : Nat) : gEd h 2 (vAt V m) i = rEdge h V i m := by unfold gEd rEdge tx; rfl
theorem g_over (h : List Ev) (V : List Nat) (i m : Nat) (hm : m < V.length) : gEd h 3 i (vAt V m) = oEdge h V i m := by
  unfold gEd oEdge tx
  by_cases e : (ev h i).2.1 = (ev h (vAt V m)).2.1
  · rw [if_pos e, if_neg (fun hh => hh.2 e.symm)]
  · rw [if_neg e, if_pos ⟨hm, fun hh => e hh.symm⟩]
theorem o_none (h : List Ev) (V : List Nat) (i m : Nat) (hm : ¬ m < V.length) : oEdge h V i m = [] := by
  unfold oEdge
  rw [if_neg (fun hh => hm hh.1)]
set_option maxHeartbeats 4000000 in
theorem pofread_any (h : List Ev) (w : World) (a : Option Addr) (cap : Nat) (hT : IsEvs w (.slice a h.length cap) h) (v : Value) (L : List Ed) (W : World) (hS : GSt w (.slice a h.length cap) v L W) (vs : Value) (V : List Nat) (Bv : Nat) (hvs : W.ownsRow Bv 3 1 vs V.length (recV intV (V.map Int.ofNat))) (hV : ∀ x ∈ V, x < h.length) (hVl : V.length ≤ 300) (i : Nat) (hi : i < h.length) (hL : L.length ≤ 900000) :
    Calls Try.prog 51 #[.slice a h.length cap, vs, .int .i64 (i : Int), gatF w] W fun e W' => GRes w (.slice a h.length cap) W (L ++ rdEdges h V i) e W' := by
  have CG := fun (k : Int) (p q : Nat) hp hq L' hL' v' W' hS' => pgather_any h w a cap hT v' L' W' hS' k p q hp hq hL'
  have BW : Below W.heap.size W ((W.alloc (.cells #[.slice a h.length cap] 22)).alloc (.cells #[.int .i64 (i : Int)] 3)) := ((Below.refl _ W).alloc (Nat.le_refl _) _).alloc (by simp) _
  have hS2 := hS.bel BW
  have X0 := (Boxed.new W 22 (.slice a h.length cap)).alloc (.cells #[.int .i64 (i : Int)] 3)
  have X1 := Boxed.new (W.alloc (.cells #[.slice a h.length cap] 22)) 3 (.int .i64 (i : Int))
  rw [World.size_alloc] at X1
  have hv2 := owns_below hvs BW
  have CI := pidx_any h (.slice a h.length cap) vs V _ (hT.below hS2.below) W.heap.size (W.heap.size + 1) i hi hV (IsRec.own intV_len (by omega) hv2 (by omega)) X0 X1
  obtain ⟨a', cap', e1, h1, h2, h3, HC⟩ := hT.reads
  obtain ⟨rfl, rfl⟩ : a' = a ∧ cap' = cap := by simpa [eq_comm] using e1
  clear e1
  obtain ⟨bb, off, rfl, HQ⟩ := HC.out (by omega)
  have HI : Hid (i < h.length) := hi
  obtain ⟨n, hn⟩ : ∃ n, V.length = n := ⟨_, rfl⟩
  have HN : Hid (V.length = n) := hn
  have HVV : Hid (∀ m, m < n → vAt V m < h.length) := fun m hm => hV _ (vAt_mem V m (by omega))
  rw [hn] at hv2 hVl
  obtain ⟨n1, hn1⟩ : ∃ n1, h.length = n1 := ⟨_, rfl⟩
  have HN1 : Hid (h.length = n1) := hn1
  rw [hn1] at CI CG hS hS2 X0 X1 h1 h3 hi BW hv2 ⊢
  clear hn1 hvs hV HC hT
  have ji : (i : Int) < (n1 : Int) := by omega
  unfold rdEdges
  cases hva : verAt h V i with
  | none =>
    rw [hva] at CI
    simp only [oI] at CI ⊢
    by_cases hv0 : (ev h i).2.2.2 = []
    · rw [if_pos hv0]
      have HV0 : Hid ((ev h i).2.2.2 = []) := hv0
      clear hva hv0
      by_cases hp : 0 < n
      · rw [← g_over h V i 0 (by have := HN.out; omega)]
        obtain ⟨g, cc, rfl, k1, k2⟩ := own_some hv2 hp
        have jw : IntKind.i64.wrap (-1 + 1) = 0 := rfl
        have jn : (0 : Int) < (n : Int) := by omega
        go_enter Try.func51, Try.ntmps51
        go_wp2_with fail
        refine CI.mono ?_
        rintro e3 w3 ⟨rfl, b3⟩
        have hS3 := hS2.bel b3
        replace X0 := boxed_below7 X0 b3
        replace X1 := boxed_below7 X1 b3
        have hv3 := owns_below hv2 b3
        clear CI
        obtain ⟨_, _, _, c3⟩ := HQ.out i HI.out _ hS3.below
        rw [HV0.out] at c3
        have x0 := X0.cell
        have x1 := X1.cell
        go_wp2_with fail
        refine wp_region_any (by kernel_rfl) ?_
        change wpAny _ _ _ _ _ _ _ (World.drew _)
        generalize hwd : World.drew _ = wd
        have bd : Below w3.heap.size w3 wd := by rw [← hwd]; exact (Below.refl _ _).drew
        have hSd := hS3.bel bd
        have hvd := owns_below hv3 bd
        have Xd := boxed_below7 X1 bd
        have k0 := ver_cell HN.out hvd hp
        have k9 := Xd.cell
        clear hwd
        refine any_of_C (C := fun U => U.cell? ⟨g, 0, none⟩ = some (.int .i64 (vAt V 0 : Int)) ∧ U.cell? ⟨W.heap.size + 1, 0, none⟩ = some (.int .i64 (i : Int))) 6 _ _ _ _ ?_
        refine takeCC [6] (i := 0) (v := gatF w) rfl (by kernel_rfl) (by kernel_rfl) (by kernel_rfl) (by kernel_rfl) (by kernel_rfl) (by kernel_rfl) (fun _ _ _ h => h) (Or.inl ⟨by kernel_rfl, fun U hU => by obtain ⟨r0, r1⟩ := hU; go_simp⟩) ?_
        refine takeCC [6] (i := 1) (v := .int .i64 (i : Int)) rfl (by kernel_rfl) (by kernel_rfl) (by kernel_rfl) (by kernel_rfl) (by kernel_rfl) (by kernel_rfl) (fun _ _ _ h => h) (Or.inl ⟨by kernel_rfl, fun U hU => by obtain ⟨r0, r1⟩ := hU; go_simp⟩) ?_
        refine takeCC [4, 5, 6] (i := 2) (v := .slice (some ⟨g, 0, none⟩) n cc) rfl (by kernel_rfl) (by kernel_rfl) (by kernel_rfl) (by kernel_rfl) (by kernel_rfl) (by kernel_rfl) (fun _ _ _ h => h) (Or.inl ⟨by kernel_rfl, fun U hU => by obtain ⟨r0, r1⟩ := hU; go_simp⟩) ?_
        refine takeCC [4, 5, 6] (i := 3) (v := .int .i64 0) rfl (by kernel_rfl) (by kernel_rfl) (by kernel_rfl) (by kernel_rfl) (by kernel_rfl) (by kernel_rfl) (fun _ _ _ h => h) (Or.inl ⟨by kernel_rfl, fun U hU => by obtain ⟨r0, r1⟩ := hU; go_simp⟩) ?_
        refine takeCC [5, 6] (i := 4) (v := .pointer (some ⟨g, 0, none⟩)) rfl (by kernel_rfl) (by kernel_rfl) (by kernel_rfl) (by kernel_rfl) (by kernel_rfl) (by kernel_rfl) (fun _ _ _ h => h) (Or.inl ⟨by kernel_rfl, fun U hU => by obtain ⟨r0, r1⟩ := hU; go_simp⟩) ?_
        refine takeCC [6] (i := 5) (v := .int .i64 (vAt V 0 : Int)) rfl (by kernel_rfl) (by kernel_rfl) (by kernel_rfl) (by kernel_rfl) (by kernel_rfl) (by kernel_rfl) (fun _ _ _ h => h) (Or.inl ⟨by kernel_rfl, fun U hU => by obtain ⟨r0, r1⟩ := hU; go_simp⟩) ?_
        refine lastC (by kernel_rfl) (by kernel_rfl) ⟨k0, k9⟩ (of_decide_eq_true (by kernel_rfl)) ?_
        refine any_seqI [6] [_] _ _ _ rfl (by kernel_rfl) ?_
        go_wp2_with fail
        refine (CG 3 i (vAt V 0) hi (by have := HVV.out 0 hp; rw [HN1.out] at this; exact this) L (by omega) _ _ hSd).mono ?_
        rintro e4 w4 ⟨rfl, fr4, v4, hS4⟩
        go_wp2_with fail
        go_end0
        exact ⟨rfl, ((FrG.of_below BW).trans (FrG.of_below b3)).trans ((FrG.of_below bd).trans fr4), v4, hS4⟩
      · rw [o_none h V i 0 (by have := HN.out; omega), List.append_nil]
        obtain ⟨ad, cc, rfl⟩ := own_shape hv2
        have jw : IntKind.i64.wrap (-1 + 1) = 0 := rfl
        obtain rfl : n = 0 := by omega
        go_enter Try.func51, Try.ntmps51
        go_wp2_with fail
        refine CI.mono ?_
        rintro e3 w3 ⟨rfl, b3⟩
        have hS3 := hS2.bel b3
        replace X0 := boxed_below7 X0 b3
        replace X1 := boxed_below7 X1 b3
        have hv3 := owns_below hv2 b3
        clear CI
        obtain ⟨_, _, _, c3⟩ := HQ.out i HI.out _ hS3.below
        rw [HV0.out] at c3
        have x0 := X0.cell
        have x1 := X1.cell
        go_wp2_with fail
        go_end0
        exact ⟨rfl, (FrG.of_below BW).trans (FrG.of_below b3), v, hS3⟩
    · rw [if_neg hv0, List.append_nil]
      obtain ⟨y, hy⟩ : ∃ y, (ev h i).2.2.2 = y := ⟨_, rfl⟩
      rw [hy] at hv0
      have HY : Hid ((ev h i).2.2.2 = y) := hy
      have ne := ne_nil7 y hv0
      have ne2 : (y == []) = false := beq_eq_false_iff_ne.2 hv0
      have ne3 : (y != []) = true := bne_iff_ne.2 hv0
      clear hva hy hv0
      obtain ⟨ad, cc, rfl⟩ := own_shape hv2
      go_enter Try.func51, Try.ntmps51
      go_wp2_with fail
      refine CI.mono ?_
      rintro e3 w3 ⟨rfl, b3⟩
      have hS3 := hS2.bel b3
      replace X0 := boxed_below7 X0 b3
      replace X1 := boxed_below7 X1 b3
      have hv3 := owns_below hv2 b3
      clear CI
      obtain ⟨_, _, _, c3⟩ := HQ.out i HI.out _ hS3.below
      rw [HY.out] at c3
      have x0 := X0.cell
      have x1 := X1.cell
      go_wp2_with fail
      go_end0
      exact ⟨rfl, (FrG.of_below BW).trans (FrG.of_below b3), v, hS3⟩
  | some m =>
    rw [hva] at CI
    simp only [oI] at CI ⊢
    have hm : m < n := by rw [verAt_is] at hva; have := ((fi_some _ _ _).1 hva).1; omega
    clear hva
    obtain ⟨g, cc, rfl, k1, k2⟩ := own_some hv2 (by omega)
    have jm : ¬ (m : Int) < 0 := by omega
    have jm2 : (m : Int) < (n : Int) := by omega
    have jw : IntKind.i64.wrap ((m : Int) + 1) = (m : Int) + 1 := by rw [IntKind.wrap_i64]; omega
    rw [← List.append_assoc, ← g_read h V i m]
    by_cases hp : m + 1 < n
    · rw [← g_over h V i (m + 1) (by have := HN.out; omega)]
      have jn : (m : Int) + 1 < (n : Int) := by omega
      have jt : ((m : Int) + 1).toNat = m + 1 := by omega
      have jn0 : ¬ (m : Int) + 1 < 0 := by omega
      go_enter Try.func51, Try.ntmps51
      go_wp2_with fail
      refine CI.mono ?_
      rintro e3 w3 ⟨rfl, b3⟩
      have hS3 := hS2.bel b3
      replace X0 := boxed_below7 X0 b3
      replace X1 := boxed_below7 X1 b3
      have hv3 := owns_below hv2 b3
      clear CI
      go_wp2_with fail
      refine wp_region_any (by kernel_rfl) ?_
      change wpAny _ _ _ _ _ _ _ (World.drew _)
      generalize hwd : World.drew _ = wd
      have bd : Below w3.heap.size w3 wd := by rw [← hwd]; exact (Below.refl _ _).drew
      have hSd := hS3.bel bd
      have hvd := owns_below hv3 bd
      have Xd := boxed_below7 X1 bd
      have k0 := ver_cell HN.out hvd hm
      have k9 := Xd.cell
      clear hwd
      refine any_of_C (C := fun U => U.cell? ⟨g, m, none⟩ = some (.int .i64 (vAt V m : Int)) ∧ U.cell? ⟨W.heap.size + 1, 0, none⟩ = some (.int .i64 (i : Int))) 6 _ _ _ _ ?_
      refine takeCC [6] (i := 0) (v := gatF w) rfl (by kernel_rfl) (by kernel_rfl) (by kernel_rfl) (by kernel_rfl) (by kernel_rfl) (by kernel_rfl) (fun _ _ _ h => h) (Or.inl ⟨by kernel_rfl, fun U hU => by obtain ⟨r0, r1⟩ := hU; go_simp⟩) ?_
      refine takeCC [3, 4, 6] (i := 1) (v := .slice (some ⟨g, 0, none⟩) n cc) rfl (by kernel_rfl) (by kernel_rfl) (by kernel_rfl) (by kernel_rfl) (by kernel_rfl) (by kernel_rfl) (fun _ _ _ h => h) (Or.inl ⟨by kernel_rfl, fun U hU => by obtain ⟨r0, r1⟩ := hU; go_simp⟩) ?_
      refine takeCC [3, 4, 6] (i := 2) (v := .int .i64 (m : Int)) rfl (by kernel_rfl) (by kernel_rfl) (by kernel_rfl) (by kernel_rfl) (by kernel_rfl) (by kernel_rfl) (fun _ _ _ h => h) (Or.inl ⟨by kernel_rfl, fun U hU => by obtain ⟨r0, r1⟩ := hU; go_simp⟩) ?_
      refine takeCC [4, 6] (i := 3) (v := .pointer (some ⟨g, m, none⟩)) rfl (by kernel_rfl) (by kernel_rfl) (by kernel_rfl) (by kernel_rfl) (by kernel_rfl) (by kernel_rfl) (fun _ _ _ h => h) (Or.inl ⟨by kernel_rfl, fun U hU => by obtain ⟨r0, r1⟩ := hU; go_simp⟩) ?_
      refine takeCC [6] (i := 4) (v := .int .i64 (vAt V m : Int)) rfl (by kernel_rfl) (by kernel_rfl) (by kernel_rfl) (by kernel_rfl) (by kernel_rfl) (by kernel_rfl) (fun _ _ _ h => h) (Or.inl ⟨by kernel_rfl, fun U hU => by obtain ⟨r0, r1⟩ := hU; go_simp⟩) ?_
      refine takeCC [6] (i := 5) (v := .int .i64 (i : Int)) rfl (by kernel_rfl) (by kernel_rfl) (by kernel_rfl) (by kernel_rfl) (by kernel_rfl) (by kernel_rfl) (fun _ _ _ h => h) (Or.inl ⟨by kernel_rfl, fun U hU => by obtain ⟨r0, r1⟩ := hU; go_simp⟩) ?_
      refine lastC (by kernel_rfl) (by kernel_rfl) ⟨k0, k9⟩ (of_decide_eq_true (by kernel_rfl)) ?_
      refine any_seqI [6] [_] _ _ _ rfl (by kernel_rfl) ?_
      go_wp2_with fail
      refine (CG 2 (vAt V m) i (by have := HVV.out m hm; rw [HN1.out] at this; exact this) hi L (by omega) _ _ hSd).mono ?_
      rintro e4 w4 ⟨rfl, fr4, v4, hS4⟩
      replace X1 := fr4.boxed Xd (by decide) (by decide)
      have hv4 := fr4.owns hvd (by decide) (by decide)
      clear k0 k9 hvd Xd hSd
      go_wp2_with fail
      refine wp_region_any (by kernel_rfl) ?_
      change wpAny _ _ _ _ _ _ _ (World.drew _)
      generalize hwd : World.drew _ = wd
      have be : Below w4.heap.size w4 wd := by rw [← hwd]; exact (Below.refl _ _).drew
      have hSd := hS4.bel be
      have hvd := owns_below hv4 be
      have Xd := boxed_below7 X1 be
      have k0 := ver_cell HN.out hvd hp
      have k9 := Xd.cell
      clear hwd
      refine any_of_C (C := fun U => U.cell? ⟨g, (m + 1), none⟩ = some (.int .i64 (vAt V (m + 1) : Int)) ∧ U.cell? ⟨W.heap.size + 1, 0, none⟩ = some (.int .i64 (i : Int))) 6 _ _ _ _ ?_
      refine takeCC [6] (i := 0) (v := gatF w) rfl (by kernel_rfl) (by kernel_rfl) (by kernel_rfl) (by kernel_rfl) (by kernel_rfl) (by kernel_rfl) (fun _ _ _ h => h) (Or.inl ⟨by kernel_rfl, fun U hU => by obtain ⟨r0, r1⟩ := hU; go_simp⟩) ?_
      refine takeCC [6] (i := 1) (v := .int .i64 (i : Int)) rfl (by kernel_rfl) (by kernel_rfl) (by kernel_rfl) (by kernel_rfl) (by kernel_rfl) (by kernel_rfl) (fun _ _ _ h => h) (Or.inl ⟨by kernel_rfl, fun U hU => by obtain ⟨r0, r1⟩ := hU; go_simp⟩) ?_
      refine takeCC [4, 5, 6] (i := 2) (v := .slice (some ⟨g, 0, none⟩) n cc) rfl (by kernel_rfl) (by kernel_rfl) (by kernel_rfl) (by kernel_rfl) (by kernel_rfl) (by kernel_rfl) (fun _ _ _ h => h) (Or.inl ⟨by kernel_rfl, fun U hU => by obtain ⟨r0, r1⟩ := hU; go_simp⟩) ?_
      refine takeCC [4, 5, 6] (i := 3) (v := .int .i64 ((m : Int) + 1)) rfl (by kernel_rfl) (by kernel_rfl) (by kernel_rfl) (by kernel_rfl) (by kernel_rfl) (by kernel_rfl) (fun _ _ _ h => h) (Or.inl ⟨by kernel_rfl, fun U hU => by obtain ⟨r0, r1⟩ := hU; go_simp⟩) ?_
      refine takeCC [5, 6] (i := 4) (v := .pointer (some ⟨g, m + 1, none⟩)) rfl (by kernel_rfl) (by kernel_rfl) (by kernel_rfl) (by kernel_rfl) (by kernel_rfl) (by kernel_rfl) (fun _ _ _ h => h) (Or.inl ⟨by kernel_rfl, fun U hU => by obtain ⟨r0, r1⟩ := hU; go_simp⟩) ?_
      refine takeCC [6] (i := 5) (v := .int .i64 (vAt V (m + 1) : Int)) rfl (by kernel_rfl) (by kernel_rfl) (by kernel_rfl) (by kernel_rfl) (by kernel_rfl) (by kernel_rfl) (fun _ _ _ h => h) (Or.inl ⟨by kernel_rfl, fun U hU => by obtain ⟨r0, r1⟩ := hU; go_simp⟩) ?_
      refine lastC (by kernel_rfl) (by kernel_rfl) ⟨k0, k9⟩ (of_decide_eq_true (by kernel_rfl)) ?_
      refine any_seqI [6] [_] _ _ _ rfl (by kernel_rfl) ?_
      go_wp2_with fail
      refine (CG 3 i (vAt V (m + 1)) hi (by have := HVV.out (m + 1) hp; rw [HN1.out] at this; exact this) _ (by have := gEd_len h 2 (vAt V m) i; rw [List.length_append]; omega) _ _ hSd).mono ?_
      rintro e5 w5 ⟨rfl, fr5, v5, hS5⟩
      go_wp2_with fail
      go_end0
      exact ⟨rfl, (((FrG.of_below BW).trans (FrG.of_below b3)).trans ((FrG.of_below bd).trans fr4)).trans ((FrG.of_below be).trans fr5), v5, hS5⟩
    · rw [o_none h V i (m + 1) (by have := HN.out; omega), List.append_nil]
      have jn : ¬ (m : Int) + 1 < (n : Int) := by omega
      go_enter Try.func51, Try.ntmps51
      go_wp2_with fail
      refine CI.mono ?_
      rintro e3 w3 ⟨rfl, b3⟩
      have hS3 := hS2.bel b3
      replace X0 := boxed_below7 X0 b3
      replace X1 := boxed_below7 X1 b3
      have hv3 := owns_below hv2 b3
      clear CI
      go_wp2_with fail
      refine wp_region_any (by kernel_rfl) ?_
      change wpAny _ _ _ _ _ _ _ (World.drew _)
      generalize hwd : World.drew _ = wd
      have bd : Below w3.heap.size w3 wd := by rw [← hwd]; exact (Below.refl _ _).drew
      have hSd := hS3.bel bd
      have hvd := owns_below hv3 bd
      have Xd := boxed_below7 X1 bd
      have k0 := ver_cell HN.out hvd hm
      have k9 := Xd.cell
      clear hwd
      refine any_of_C (C := fun U => U.cell? ⟨g, m, none⟩ = some (.int .i64 (vAt V m : Int)) ∧ U.cell? ⟨W.heap.size + 1, 0, none⟩ = some (.int .i64 (i : Int))) 6 _ _ _ _ ?_
      refine takeCC [6] (i := 0) (v := gatF w) rfl (by kernel_rfl) (by kernel_rfl) (by kernel_rfl) (by kernel_rfl) (by kernel_rfl) (by kernel_rfl) (fun _ _ _ h => h) (Or.inl ⟨by kernel_rfl, fun U hU => by obtain ⟨r0, r1⟩ := hU; go_simp⟩) ?_
      refine takeCC [3, 4, 6] (i := 1) (v := .slice (some ⟨g, 0, none⟩) n cc) rfl (by kernel_rfl) (by kernel_rfl) (by kernel_rfl) (by kernel_rfl) (by kernel_rfl) (by kernel_rfl) (fun _ _ _ h => h) (Or.inl ⟨by kernel_rfl, fun U hU => by obtain ⟨r0, r1⟩ := hU; go_simp⟩) ?_
      refine takeCC [3, 4, 6] (i := 2) (v := .int .i64 (m : Int)) rfl (by kernel_rfl) (by kernel_rfl) (by kernel_rfl) (by kernel_rfl) (by kernel_rfl) (by kernel_rfl) (fun _ _ _ h => h) (Or.inl ⟨by kernel_rfl, fun U hU => by obtain ⟨r0, r1⟩ := hU; go_simp⟩) ?_
      refine takeCC [4, 6] (i := 3) (v := .pointer (some ⟨g, m, none⟩)) rfl (by kernel_rfl) (by kernel_rfl) (by kernel_rfl) (by kernel_rfl) (by kernel_rfl) (by kernel_rfl) (fun _ _ _ h => h) (Or.inl ⟨by kernel_rfl, fun U hU => by obtain ⟨r0, r1⟩ := hU; go_simp⟩) ?_
      refine takeCC [6] (i := 4) (v := .int .i64 (vAt V m : Int)) rfl (by kernel_rfl) (by kernel_rfl) (by kernel_rfl) (by kernel_rfl) (by kernel_rfl) (by kernel_rfl) (fun _ _ _ h => h) (Or.inl ⟨by kernel_rfl, fun U hU => by obtain ⟨r0, r1⟩ := hU; go_simp⟩) ?_
      refine takeCC [6] (i := 5) (v := .int .i64 (i : Int)) rfl (by kernel_rfl) (by kernel_rfl) (by kernel_rfl) (by kernel_rfl) (by kernel_rfl) (by kernel_rfl) (fun _ _ _ h => h) (Or.inl ⟨by kernel_rfl, fun U hU => by obtain ⟨r0, r1⟩ := hU; go_simp⟩) ?_
      refine lastC (by kernel_rfl) (by kernel_rfl) ⟨k0, k9⟩ (of_decide_eq_true (by kernel_rfl)) ?_
      refine any_seqI [6] [_] _ _ _ rfl (by kernel_rfl) ?_
      go_wp2_with fail
      refine (CG 2 (vAt V m) i (by have := HVV.out m hm; rw [HN1.out] at this; exact this) hi L (by omega) _ _ hSd).mono ?_
      rintro e4 w4 ⟨rfl, fr4, v4, hS4⟩
      replace X1 := fr4.boxed Xd (by decide) (by decide)
      have hv4 := fr4.owns hvd (by decide) (by decide)
      clear k0 k9 hvd Xd hSd
      go_wp2_with fail
      go_end0
      exact ⟨rfl, ((FrG.of_below BW).trans (FrG.of_below b3)).trans ((FrG.of_below bd).trans fr4), v4, hS4⟩
end Go.Proofs.Yteehpkkkagdckaa
