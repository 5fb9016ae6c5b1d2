/-
  What tree.fits answers.
-/
import Derived.Test.YtlkkdfopecbekaaDoorZP3Sides
import Derived.Test.YtlkkdfopecbekaaDoorGB
namespace Go.Proofs.YtlkkdfopecbekaaDoor
set_option maxRecDepth 100000
open Go.RowKit Go.Shelf
set_option linter.unusedVariables false
attribute [local go_sem] Oper.semAt_some ba_size
set_option maxHeartbeats 2000000 in
theorem pfits_any (n i : Nat) (hn : n ≤ 4096) (hi : i < n) (p : List (List UInt8)) (v : Value) (w : World) (hT : IsTxt w v p) :
    Calls Tryd.prog 61 #[.int .i64 n, .int .i64 i, v] w fun e w' => e = .returned (.bool (decide (p.length = (sidesS n 0 n i (Nat.le_refl _)).length ∧ ∀ x ∈ p, x.length = 32))) ∧ Below w.heap.size w w' := by
  have hT0 := hT
  have hN := sidesS_le n (n - 0) 0 n i (Nat.le_refl _) rfl
  have hst := fun W lN lI cN cI => sides_stops n i hn (by omega) (w.heap.size + 1) (w.heap.size + 1 + 1) (3 - 1) W lN lI cN cI
  obtain ⟨a, cap, rfl, h1, h2, h3⟩ := hT.len
  obtain ⟨N, hNN⟩ : ∃ N, (sidesS n 0 n i (Nat.le_refl _)).length = N := ⟨_, rfl⟩
  rw [hNN] at hN hst ⊢
  obtain ⟨R, hR⟩ : ∃ R : Bool, decide (p.length = N ∧ ∀ x ∈ p, x.length = 32) = R := ⟨_, rfl⟩
  rw [hR]
  have HR : Hid (decide (p.length = N ∧ ∀ x ∈ p, x.length = 32) = R) := hR
  clear hR
  refine (callsIn_wide (n := 3)).1 ?_
  refine callsIn_of_wp_marks Tryd.func61 rfl trivial ?_ rfl
  simp only [Tryd.ntmps61, List.size_toArray, List.length_cons, List.length_nil, Nat.reduceAdd, Nat.reduceSub, Array.replicate_succ, Array.replicate_zero, List.push_toArray, List.append_toArray, List.nil_append, List.cons_append]
  gi_wp2_with ((try refine ⟨trivial, ?_⟩); gi_at_call 38; refine (callsIn_wide.2 (sides_any _ _ _)).mono ?_; rintro e w1 ⟨rfl, rfl⟩)
  have bM : Boxed (((w.alloc (.cells #[.int .i64 0] 3)).alloc (.cells #[.int .i64 n] 3)).alloc (.cells #[.int .i64 i] 3)) w.heap.size 3 (.int .i64 0) := ((Boxed.new w 3 (.int .i64 0)).alloc _).alloc _
  have bN : Boxed (((w.alloc (.cells #[.int .i64 0] 3)).alloc (.cells #[.int .i64 n] 3)).alloc (.cells #[.int .i64 i] 3)) (w.heap.size + 1) 3 (.int .i64 n) := by
    have := (Boxed.new (w.alloc (.cells #[.int .i64 0] 3)) 3 (.int .i64 n)).alloc (.cells #[.int .i64 i] 3)
    rwa [World.size_alloc] at this
  have bI : Boxed (((w.alloc (.cells #[.int .i64 0] 3)).alloc (.cells #[.int .i64 n] 3)).alloc (.cells #[.int .i64 i] 3)) (w.heap.size + 1 + 1) 3 (.int .i64 i) := by
    have := Boxed.new ((w.alloc (.cells #[.int .i64 0] 3)).alloc (.cells #[.int .i64 n] 3)) 3 (.int .i64 i)
    rwa [World.size_alloc, World.size_alloc] at this
  have hB0 : Below w.heap.size w (((w.alloc (.cells #[.int .i64 0] 3)).alloc (.cells #[.int .i64 n] 3)).alloc (.cells #[.int .i64 i] 3)) := (((Below.refl _ w).alloc (Nat.le_refl _) _).alloc (by simp) _).alloc (by simp; omega) _
  refine wpIn_rangeFunc_ownG rfl (by omega) (gf := 59) (lb := #[.pointer (some ⟨w.heap.size + 1, 0, none⟩), .pointer (some ⟨w.heap.size + 1 + 1, 0, none⟩)]) rfl trivial (enters_of Tryd.func59 (by kernel_rfl) rfl)
    (hst _ bN.lt bI.lt bN.cell bI.cell) (fun _ _ => trivial) (fun _ _ _ _ _ _ _ _ => trivial) (Below.refl _ _) (fun _ => rfl)
    (fun pre W => Boxed W w.heap.size 3 (.int .i64 (pre.length : Nat)) ∧ Below w.heap.size w W)
    (fun _ _ _ => False)
    (OwnFrom.and (Own.from (boxed_own w.heap.size 3 (fun pre : List (Side n) => .int .i64 (pre.length : Nat))) _) (ownFrom_below (Nat.le_refl _) (by simp; omega)))
    (fun _ _ _ _ _ hs _ _ => hs)
    ⟨bM, hB0⟩
    (fun x => { tmps := #[.int .i64 n, .int .i64 i, .slice a p.length cap, undef, undef, undef, .bool false, .pointer (some ⟨w.heap.size, 0, none⟩), undef, undef, .int .i64 n, .int .i64 i, sidesF (w.heap.size + 1) (w.heap.size + 1 + 1), .agg #[.int .i64 x.a, .int .i64 x.b, .bool x.r], undef, undef, undef, undef, undef, undef, undef, undef, undef, undef, undef, undef, undef, undef, undef, undef], defers := [] }) ?assign ?body ?done ?stop
  case assign =>
    intro l x W K hK
    gi_wp2
    simpa using hK
  case body =>
    rintro l pre x W ⟨hb, hB⟩ hlt
    have hc := hb.cell
    have hf := hb.frozen
    have x1 : IntKind.i64.wrap ((pre.length : Int) + 1) = (pre.length : Int) + 1 := by rw [IntKind.wrap_i64]; omega
    gi_wp2
    refine ⟨(KeepsOthers.setCell _ _ _).from _, trivial, ?_, hB.setCell (p := ⟨w.heap.size, 0, none⟩) (Nat.le_refl _) _⟩
    have := hb.set (.int .i64 ((pre.length : Int) + 1))
    rw [List.length_append]
    exact this
  case done =>
    rintro D ys W hD rfl ⟨hb, hB⟩ hK
    rw [hNN] at hb
    have hc := hb.cell
    have hbD : Below w.heap.size w (W.putObj D (.deferred none)) := hB.trans (belowK_b (w := w) (Nat.le_refl _) W D _ _ (by simp at hD; omega) hK rfl rfl)
    by_cases hl : p.length = N
    · have HT := hT0.below hB
      have hA : p.length = 0 ∨ ∃ b off, a = some ⟨b, off, none⟩ ∧ Hid (∀ j (h : j < p.length), W.cell? ⟨b, off + j, none⟩ = some (.string ⟨p[j].toArray⟩)) := by
        by_cases h0 : p.length = 0
        · exact .inl h0
        · obtain ⟨b, off, cap', hv, _, _, _, _, HC⟩ := HT.at (by omega)
          simp only [Value.slice.injEq] at hv
          exact .inr ⟨b, off, hv.1, HC⟩
      have i0 : ((p.length : Int) == (N : Int)) = true := by rw [hl]; simp
      have HL : Hid (p.length = N) := hl
      clear hl hT hT0 HT
      gi_wp2
      gi_loopw [22] (fun iv wr => ∃ k : Nat, iv = .int .i64 k ∧ k ≤ p.length ∧ Hid (∀ j (h : j < p.length), j < k → (p[j]'h).length = 32) ∧ wr = W) (fun iv _ => p.length - (intOf iv).toNat)
      case atStart => exact ⟨0, rfl, by omega, fun j h hj => by omega, rfl⟩
      case round =>
        obtain ⟨k, rfl, hk, H32, rfl⟩ := hrel
        by_cases hkl : k < p.length
        · rcases hA with hA | ⟨b, off, rfl, HC⟩
          · omega
          · have c0 := HC.out k hkl
            have j0 : (k : Int) < (p.length : Int) := by omega
            have x1 : IntKind.i64.wrap ((k : Int) + 1) = (k : Int) + 1 := by rw [IntKind.wrap_i64]; omega
            by_cases h32 : (p[k]'hkl).length = 32
            · have H32' : Hid (∀ j (h : j < p.length), j < k + 1 → (p[j]'h).length = 32) := by
                intro j h hj
                by_cases hjk : j = k
                · subst hjk; exact h32
                · exact H32.out j h (by omega)
              have i1 : (((p[k]'hkl).length : Int) == 32) = true := by rw [h32]; rfl
              gi_wp2
              go_roundw
              case rel => exact ⟨k + 1, by first | rfl | go_num | simp, by omega, H32', by first | trivial | rfl⟩
              case measure => simp [intOf]; omega
            · have i1 : (((p[k]'hkl).length : Int) == 32) = false := by rw [beq_eq_false_iff_ne]; omega
              have HE : Hid (decide (p.length = N ∧ ∀ x ∈ p, x.length = 32) = false) := decide_eq_false fun h => h32 (h.2 _ (List.getElem_mem hkl))
              gi_wp2
              refine ⟨by simp, .inl ⟨_, _, rfl, run_takeDeferred hK, ?_⟩⟩
              exact ⟨_, results_tmp rfl _ _ _, by rw [← HR.out, HE.out]; rfl, hbD⟩
        · have j0 : ¬ (k : Int) < (p.length : Int) := by omega
          have HE : Hid (decide (p.length = N ∧ ∀ x ∈ p, x.length = 32) = true) := decide_eq_true ⟨HL.out, fun x hx => by
            obtain ⟨j, hj, rfl⟩ := List.getElem_of_mem hx
            exact H32.out j hj (by omega)⟩
          gi_wp2
          refine ⟨by simp, .inl ⟨_, _, rfl, run_takeDeferred hK, ?_⟩⟩
          exact ⟨_, results_tmp rfl _ _ _, by rw [← HR.out, HE.out]; rfl, hbD⟩
    · have HE : Hid (decide (p.length = N ∧ ∀ x ∈ p, x.length = 32) = false) := decide_eq_false fun h => hl h.1
      have i0 : ((p.length : Int) == (N : Int)) = false := by rw [beq_eq_false_iff_ne]; omega
      gi_wp2
      refine ⟨by simp, .inl ⟨_, _, rfl, run_takeDeferred hK, ?_⟩⟩
      exact ⟨_, results_tmp rfl _ _ _, by rw [← HR.out, HE.out]; rfl, hbD⟩
  case stop =>
    rintro D c pre W _ _ h _
    exact h.elim
end Go.Proofs.YtlkkdfopecbekaaDoor
