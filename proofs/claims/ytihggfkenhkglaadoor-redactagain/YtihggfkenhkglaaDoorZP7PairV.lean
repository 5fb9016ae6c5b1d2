/-
  What redact.pair answers, of values.
-/
import Derived.Test.YtihggfkenhkglaaDoorZP7Pair
namespace Go.Proofs.YtihggfkenhkglaaDoor
set_option maxRecDepth 100000
open Go.RowKit Go.Shelf
set_option linter.unusedVariables false
attribute [local go_sem] Oper.semAt_some ba_size ba_append
/-- What the loop of pair keeps, by values. -/
structure PStV (w : World) (hs ts : Value) (m : Nat) (f : List UInt8 → Option Nat) (W : World) : Prop where
  below : Below w.heap.size w W
  size : w.heap.size + 1 + 1 + 1 + 1 + 1 + 1 + 1 + 1 + 1 + 1 ≤ W.heap.size
  bh : Boxed W (w.heap.size) 37 hs
  bt : Boxed W (w.heap.size + 1) 79 (.func (.func 49) #[] #[])
  bi : Boxed W (w.heap.size + 1 + 1) 54 (inF 6)
  r1 : Boxed W (w.heap.size + 1 + 1 + 1) 9 (.string ⟨#[]⟩)
  r2 : Boxed W (w.heap.size + 1 + 1 + 1 + 1) 9 (.string ⟨#[]⟩)
  r3 : Boxed W (w.heap.size + 1 + 1 + 1 + 1 + 1) 4 (.bool false)
  fM : FMap W (w.heap.size + 1 + 1 + 1 + 1 + 1 + 1) m f
  fb : Boxed W (w.heap.size + 1 + 1 + 1 + 1 + 1 + 1 + 1) 86 (.map (some (w.heap.size + 1 + 1 + 1 + 1 + 1 + 1)))
  ff : Boxed W (w.heap.size + 1 + 1 + 1 + 1 + 1 + 1 + 1 + 1) 75 (firstsF (w.heap.size + 1 + 1 + 1 + 1 + 1 + 1 + 1))
  be : Boxed W (w.heap.size + 1 + 1 + 1 + 1 + 1 + 1 + 1 + 1 + 1) 37 ts
theorem PStV.bel {w : World} {hs ts : Value} {m : Nat} {f : List UInt8 → Option Nat} {W W' : World} (h : PStV w hs ts m f W) (hb : Below (w.heap.size + 1 + 1 + 1 + 1 + 1 + 1 + 1 + 1 + 1 + 1) W W') : PStV w hs ts m f W' :=
  ⟨h.below.trans (hb.mono (by omega)), Nat.le_trans h.size hb.size, boxed_bel h.bh hb (by omega), boxed_bel h.bt hb (by omega), boxed_bel h.bi hb (by omega), boxed_bel h.r1 hb (by omega), boxed_bel h.r2 hb (by omega), boxed_bel h.r3 hb (by omega), h.fM.bel hb (by omega), boxed_bel h.fb hb (by omega), boxed_bel h.ff hb (by omega), boxed_bel h.be hb (by omega)⟩
theorem PStV.turn {w : World} {hs ts : Value} {m m' : Nat} {f f' : List UInt8 → Option Nat} {W W' : World} (h : PStV w hs ts m f W) (hg : W.grownBy W' (some (w.heap.size + 1 + 1 + 1 + 1 + 1 + 1))) (hf : FMap W' (w.heap.size + 1 + 1 + 1 + 1 + 1 + 1) m' f') : PStV w hs ts m' f' W' :=
  ⟨h.below.grown hg (by have := h.size; omega) (fun k e => by cases e; omega), Nat.le_trans h.size hg.size, h.bh.kept hg (fun e => by have := Option.some.inj e; omega), h.bt.kept hg (fun e => by have := Option.some.inj e; omega), h.bi.kept hg (fun e => by have := Option.some.inj e; omega), h.r1.kept hg (fun e => by have := Option.some.inj e; omega), h.r2.kept hg (fun e => by have := Option.some.inj e; omega), h.r3.kept hg (fun e => by have := Option.some.inj e; omega), hf, h.fb.kept hg (fun e => by have := Option.some.inj e; omega), h.ff.kept hg (fun e => by have := Option.some.inj e; omega), h.be.kept hg (fun e => by have := Option.some.inj e; omega)⟩
def PInvV (w : World) (h T : List Ev) (hs ts : Value) (pre : List (Fin T.length)) (W : World) : Prop :=
  ∃ f, PStV w hs ts pre.length f W ∧ lessF f T.length ∧ (pre <+: List.finRange T.length → f = gF (valAt T) pre.length ∧ ∀ j, j < pre.length → valAt h ((gF (valAt T) j (valAt T j)).getD j) = valAt h j)
def POutV (w : World) (h T : List Ev) (c : Code) (pre : List (Fin T.length)) (W : World) : Prop :=
  c = .ret ∧ w.heap.size + 1 + 1 + 1 + 1 + 1 + 1 + 1 + 1 + 1 + 1 ≤ W.heap.size ∧ Below w.heap.size w W ∧ ∃ x y : List UInt8, Boxed W (w.heap.size + 1 + 1 + 1) 9 (.string ⟨x.toArray⟩) ∧ Boxed W (w.heap.size + 1 + 1 + 1 + 1) 9 (.string ⟨y.toArray⟩) ∧ Boxed W (w.heap.size + 1 + 1 + 1 + 1 + 1) 4 (.bool true) ∧ (pre <+: List.finRange T.length → pairR 6 (valAt h) (valAt T) T.length = (x, y, true))
set_option maxHeartbeats 4000000 in
theorem ppairV_any (h T : List Ev) (v u : Value) (w : World) (hT : IsEvs w v h) (hU : IsEvs w u T) (hl : T.length = h.length) (hn : h.length ≤ 256) (hB : ∀ x ∈ h, x.2.2.1.length ≤ 1125899906842624 ∧ x.2.2.2.length ≤ 1125899906842624) (hB' : ∀ x ∈ T, x.2.2.1.length ≤ 1125899906842624 ∧ x.2.2.2.length ≤ 1125899906842624) :
    Calls Tryd.prog 47 #[v, u, .func (.func 49) #[] #[], inF 6] w fun e w' => e = .returned (twV (pairR 6 (valAt h) (valAt T) T.length)) ∧ Below w.heap.size w w' := by
  have hU0 := hU
  obtain ⟨a, cap, rfl, h1, h2, h3, HC⟩ := hT.some_at
  obtain ⟨b, cap2, rfl, k1, k2, k3, HD⟩ := hU.some_at
  clear HD hU hT
  have HL : Hid (T.length = h.length) := hl
  clear hl
  refine (callsIn_wide (n := 3)).1 ?_
  refine callsIn_of_wp_marks Tryd.func47 rfl trivial ?_ rfl
  simp only [Tryd.ntmps47, List.size_toArray, List.length_cons, List.length_nil, Nat.reduceAdd, Nat.reduceSub, Array.replicate_succ, Array.replicate_zero, List.push_toArray, List.append_toArray, List.nil_append, List.cons_append]
  gi_wp2_with (first
    | ((try refine ⟨trivial, ?_⟩); gi_at_call 43; refine (callsIn_wide.2 (pfirsts_any _)).mono ?_; rintro e w2 ⟨rfl, rfl⟩)
    | ((try refine ⟨trivial, ?_⟩); gi_at_call 33; refine (callsIn_wide.2 (pevents_any _ _ _ _)).mono ?_; rintro e w2 ⟨rfl, rfl⟩))
  have hS0 : PStV w (.slice a h.length cap) (.slice b T.length cap2) 0 (fun _ => none) ((((((((((w.alloc (.cells #[.slice a h.length cap] 37)).alloc (.cells #[.func (.func 49) #[] #[]] 79)).alloc (.cells #[inF 6] 54)).alloc (.cells #[.string ⟨#[]⟩] 9)).alloc (.cells #[.string ⟨#[]⟩] 9)).alloc (.cells #[.bool false] 4)).alloc (.map #[] 0)).alloc (.cells #[.map (some (w.heap.size + 1 + 1 + 1 + 1 + 1 + 1))] 86)).alloc (.cells #[firstsF (w.heap.size + 1 + 1 + 1 + 1 + 1 + 1 + 1)] 75)).alloc (.cells #[.slice b T.length cap2] 37)) := by
    have b0 := (((((((((Boxed.new w 37 (.slice a h.length cap)).alloc (.cells #[.func (.func 49) #[] #[]] 79)).alloc (.cells #[inF 6] 54)).alloc (.cells #[.string ⟨#[]⟩] 9)).alloc (.cells #[.string ⟨#[]⟩] 9)).alloc (.cells #[.bool false] 4)).alloc (.map #[] 0)).alloc (.cells #[.map (some (w.heap.size + 1 + 1 + 1 + 1 + 1 + 1))] 86)).alloc (.cells #[firstsF (w.heap.size + 1 + 1 + 1 + 1 + 1 + 1 + 1)] 75)).alloc (.cells #[.slice b T.length cap2] 37)
    have b1 := ((((((((Boxed.new (w.alloc (.cells #[.slice a h.length cap] 37)) 79 (.func (.func 49) #[] #[])).alloc (.cells #[inF 6] 54)).alloc (.cells #[.string ⟨#[]⟩] 9)).alloc (.cells #[.string ⟨#[]⟩] 9)).alloc (.cells #[.bool false] 4)).alloc (.map #[] 0)).alloc (.cells #[.map (some (w.heap.size + 1 + 1 + 1 + 1 + 1 + 1))] 86)).alloc (.cells #[firstsF (w.heap.size + 1 + 1 + 1 + 1 + 1 + 1 + 1)] 75)).alloc (.cells #[.slice b T.length cap2] 37)
    have b2 := (((((((Boxed.new ((w.alloc (.cells #[.slice a h.length cap] 37)).alloc (.cells #[.func (.func 49) #[] #[]] 79)) 54 (inF 6)).alloc (.cells #[.string ⟨#[]⟩] 9)).alloc (.cells #[.string ⟨#[]⟩] 9)).alloc (.cells #[.bool false] 4)).alloc (.map #[] 0)).alloc (.cells #[.map (some (w.heap.size + 1 + 1 + 1 + 1 + 1 + 1))] 86)).alloc (.cells #[firstsF (w.heap.size + 1 + 1 + 1 + 1 + 1 + 1 + 1)] 75)).alloc (.cells #[.slice b T.length cap2] 37)
    have b3 := ((((((Boxed.new (((w.alloc (.cells #[.slice a h.length cap] 37)).alloc (.cells #[.func (.func 49) #[] #[]] 79)).alloc (.cells #[inF 6] 54)) 9 (.string ⟨#[]⟩)).alloc (.cells #[.string ⟨#[]⟩] 9)).alloc (.cells #[.bool false] 4)).alloc (.map #[] 0)).alloc (.cells #[.map (some (w.heap.size + 1 + 1 + 1 + 1 + 1 + 1))] 86)).alloc (.cells #[firstsF (w.heap.size + 1 + 1 + 1 + 1 + 1 + 1 + 1)] 75)).alloc (.cells #[.slice b T.length cap2] 37)
    have b4 := (((((Boxed.new ((((w.alloc (.cells #[.slice a h.length cap] 37)).alloc (.cells #[.func (.func 49) #[] #[]] 79)).alloc (.cells #[inF 6] 54)).alloc (.cells #[.string ⟨#[]⟩] 9)) 9 (.string ⟨#[]⟩)).alloc (.cells #[.bool false] 4)).alloc (.map #[] 0)).alloc (.cells #[.map (some (w.heap.size + 1 + 1 + 1 + 1 + 1 + 1))] 86)).alloc (.cells #[firstsF (w.heap.size + 1 + 1 + 1 + 1 + 1 + 1 + 1)] 75)).alloc (.cells #[.slice b T.length cap2] 37)
    have b5 := ((((Boxed.new (((((w.alloc (.cells #[.slice a h.length cap] 37)).alloc (.cells #[.func (.func 49) #[] #[]] 79)).alloc (.cells #[inF 6] 54)).alloc (.cells #[.string ⟨#[]⟩] 9)).alloc (.cells #[.string ⟨#[]⟩] 9)) 4 (.bool false)).alloc (.map #[] 0)).alloc (.cells #[.map (some (w.heap.size + 1 + 1 + 1 + 1 + 1 + 1))] 86)).alloc (.cells #[firstsF (w.heap.size + 1 + 1 + 1 + 1 + 1 + 1 + 1)] 75)).alloc (.cells #[.slice b T.length cap2] 37)
    have b7 := ((Boxed.new (((((((w.alloc (.cells #[.slice a h.length cap] 37)).alloc (.cells #[.func (.func 49) #[] #[]] 79)).alloc (.cells #[inF 6] 54)).alloc (.cells #[.string ⟨#[]⟩] 9)).alloc (.cells #[.string ⟨#[]⟩] 9)).alloc (.cells #[.bool false] 4)).alloc (.map #[] 0)) 86 (.map (some (w.heap.size + 1 + 1 + 1 + 1 + 1 + 1)))).alloc (.cells #[firstsF (w.heap.size + 1 + 1 + 1 + 1 + 1 + 1 + 1)] 75)).alloc (.cells #[.slice b T.length cap2] 37)
    have b8 := (Boxed.new ((((((((w.alloc (.cells #[.slice a h.length cap] 37)).alloc (.cells #[.func (.func 49) #[] #[]] 79)).alloc (.cells #[inF 6] 54)).alloc (.cells #[.string ⟨#[]⟩] 9)).alloc (.cells #[.string ⟨#[]⟩] 9)).alloc (.cells #[.bool false] 4)).alloc (.map #[] 0)).alloc (.cells #[.map (some (w.heap.size + 1 + 1 + 1 + 1 + 1 + 1))] 86)) 75 (firstsF (w.heap.size + 1 + 1 + 1 + 1 + 1 + 1 + 1))).alloc (.cells #[.slice b T.length cap2] 37)
    have b9 := Boxed.new (((((((((w.alloc (.cells #[.slice a h.length cap] 37)).alloc (.cells #[.func (.func 49) #[] #[]] 79)).alloc (.cells #[inF 6] 54)).alloc (.cells #[.string ⟨#[]⟩] 9)).alloc (.cells #[.string ⟨#[]⟩] 9)).alloc (.cells #[.bool false] 4)).alloc (.map #[] 0)).alloc (.cells #[.map (some (w.heap.size + 1 + 1 + 1 + 1 + 1 + 1))] 86)).alloc (.cells #[firstsF (w.heap.size + 1 + 1 + 1 + 1 + 1 + 1 + 1)] 75)) 37 (.slice b T.length cap2)
    have b6 := (((FMap.made ((((((w.alloc (.cells #[.slice a h.length cap] 37)).alloc (.cells #[.func (.func 49) #[] #[]] 79)).alloc (.cells #[inF 6] 54)).alloc (.cells #[.string ⟨#[]⟩] 9)).alloc (.cells #[.string ⟨#[]⟩] 9)).alloc (.cells #[.bool false] 4))).kept (World.grownBy_alloc _ (.cells #[.map (some (w.heap.size + 1 + 1 + 1 + 1 + 1 + 1))] 86) none) (by simp)).kept (World.grownBy_alloc _ (.cells #[firstsF (w.heap.size + 1 + 1 + 1 + 1 + 1 + 1 + 1)] 75) none) (by simp)).kept (World.grownBy_alloc _ (.cells #[.slice b T.length cap2] 37) none) (by simp)
    simp only [World.size_alloc] at b0 b1 b2 b3 b4 b5 b6 b7 b8 b9
    exact ⟨(((((((((((Below.refl _ w).alloc (by first | exact Nat.le_refl _ | (simp only [World.size_alloc]; omega)) _).alloc (by first | exact Nat.le_refl _ | (simp only [World.size_alloc]; omega)) _).alloc (by first | exact Nat.le_refl _ | (simp only [World.size_alloc]; omega)) _).alloc (by first | exact Nat.le_refl _ | (simp only [World.size_alloc]; omega)) _).alloc (by first | exact Nat.le_refl _ | (simp only [World.size_alloc]; omega)) _).alloc (by first | exact Nat.le_refl _ | (simp only [World.size_alloc]; omega)) _).alloc (by first | exact Nat.le_refl _ | (simp only [World.size_alloc]; omega)) _).alloc (by first | exact Nat.le_refl _ | (simp only [World.size_alloc]; omega)) _).alloc (by first | exact Nat.le_refl _ | (simp only [World.size_alloc]; omega)) _).alloc (by first | exact Nat.le_refl _ | (simp only [World.size_alloc]; omega)) _), by simp, b0, b1, b2, b3, b4, b5, b6, b7, b8, b9⟩
  obtain ⟨W0, hW0⟩ : ∃ W0, ((((((((((w.alloc (.cells #[.slice a h.length cap] 37)).alloc (.cells #[.func (.func 49) #[] #[]] 79)).alloc (.cells #[inF 6] 54)).alloc (.cells #[.string ⟨#[]⟩] 9)).alloc (.cells #[.string ⟨#[]⟩] 9)).alloc (.cells #[.bool false] 4)).alloc (.map #[] 0)).alloc (.cells #[.map (some (w.heap.size + 1 + 1 + 1 + 1 + 1 + 1))] 86)).alloc (.cells #[firstsF (w.heap.size + 1 + 1 + 1 + 1 + 1 + 1 + 1)] 75)).alloc (.cells #[.slice b T.length cap2] 37)) = W0 := ⟨_, rfl⟩
  have sW0 : W0.heap.size = w.heap.size + 1 + 1 + 1 + 1 + 1 + 1 + 1 + 1 + 1 + 1 := by rw [← hW0]; simp
  change Code.wpIn _ _ _ _ _ _ ((((((((((w.alloc (.cells #[.slice a h.length cap] 37)).alloc (.cells #[.func (.func 49) #[] #[]] 79)).alloc (.cells #[inF 6] 54)).alloc (.cells #[.string ⟨#[]⟩] 9)).alloc (.cells #[.string ⟨#[]⟩] 9)).alloc (.cells #[.bool false] 4)).alloc (.map #[] 0)).alloc (.cells #[.map (some (w.heap.size + 1 + 1 + 1 + 1 + 1 + 1))] 86)).alloc (.cells #[firstsF (w.heap.size + 1 + 1 + 1 + 1 + 1 + 1 + 1)] 75)).alloc (.cells #[.slice b T.length cap2] 37))
  rw [hW0] at hS0 ⊢
  clear hW0
  refine wpIn_rangeFunc_ownH rfl (by omega) (gf := 46) (lb := #[.pointer (some ⟨w.heap.size + 1 + 1 + 1 + 1 + 1 + 1 + 1 + 1 + 1, 0, none⟩)]) rfl trivial (enters_of Tryd.func46 (by kernel_rfl) rfl)
    (events_stops T w b cap2 hU0 (w.heap.size + 1 + 1 + 1 + 1 + 1 + 1 + 1 + 1 + 1) (3 - 1) W0 hS0.below hS0.be) (fun h k => kpE_t h k) (kpE_b (by omega) (by omega)) (Below.refl _ _) (fun _ => rfl)
    (PInvV w h T (.slice a h.length cap) (.slice b T.length cap2)) (POutV w h T)
    (ownFrom_of_below (fun _ W ⟨f, h1, _⟩ => by rw [sW0]; exact h1.size) (fun _ W W' ⟨f, h1, h2⟩ hb => ⟨f, h1.bel (by rw [sW0] at hb; exact hb), h2⟩))
    (fun c => ownFrom_of_below (fun _ W ⟨h1, h2, h3⟩ => by rw [sW0]; exact h2) (fun _ W W' ⟨h1, h2, h3, x, y, h4, h5, h6, h7⟩ hb => by
      rw [sW0] at hb
      exact ⟨h1, Nat.le_trans h2 hb.size, h3.trans (hb.mono (by omega)), x, y, boxed_bel h4 hb (by omega), boxed_bel h5 hb (by omega), boxed_bel h6 hb (by omega), h7⟩))
    ⟨_, hS0, lessF.zero _, fun _ => ⟨(gF_zero _).symm, fun j hj => by simp at hj⟩⟩
    (fun x a' W => ∃ Bx, w.heap.size + 1 + 1 + 1 + 1 + 1 + 1 + 1 + 1 + 1 < Bx ∧ SBox W Bx 23 #[.int .i64 T[x.val].1, .int .i64 T[x.val].2.1, .string ⟨T[x.val].2.2.1.toArray⟩, .string ⟨T[x.val].2.2.2.toArray⟩] ∧ a' = { tmps := #[.slice a h.length cap, .slice b T.length cap2, .func (.func 49) #[] #[], inF 6, .pointer (some ⟨w.heap.size, 0, none⟩), undef, .pointer (some ⟨w.heap.size + 1, 0, none⟩), .pointer (some ⟨w.heap.size + 1 + 1, 0, none⟩), .pointer (some ⟨w.heap.size + 1 + 1 + 1, 0, none⟩), .pointer (some ⟨w.heap.size + 1 + 1 + 1 + 1, 0, none⟩), .pointer (some ⟨w.heap.size + 1 + 1 + 1 + 1 + 1, 0, none⟩), .pointer (some ⟨w.heap.size + 1 + 1 + 1 + 1 + 1 + 1 + 1 + 1, 0, none⟩), .int .i64 (x.val : Int), .pointer (some ⟨Bx, 0, none⟩), undef, undef, firstsF (w.heap.size + 1 + 1 + 1 + 1 + 1 + 1 + 1), .slice b T.length cap2, eventsF (w.heap.size + 1 + 1 + 1 + 1 + 1 + 1 + 1 + 1 + 1), .int .i64 (x.val : Int), evW T[x.val], undef, undef, undef, undef, undef, undef, undef, undef, undef, undef, undef, undef, undef, undef, undef, undef, undef, undef, undef, undef, undef, undef, undef, undef, undef, undef], defers := [] })
    (fun x a' _ A B row hs hg hr => by
      obtain ⟨Bx, h1, h2, h4⟩ := hs
      exact ⟨Bx, h1, block_kept h2 hg (fun r e => (hr r e).2), h4⟩)
    ?assign ?body ?done ?stop
  case assign =>
    rintro l pre x W K' ⟨f, hS, hp⟩ hK
    have hsz := hS.size
    gi_wp2
    refine hK _ _ ((KeepsOthers.alloc _ _).from _) ⟨(Below.refl _ W).alloc (by omega) _, Below.heap_alloc W _ _ (by omega)⟩ ⟨f, hS.bel ((Below.refl _ W).alloc hsz _), hp⟩ ⟨W.heap.size, by omega, SBox.new W _ _, rfl⟩
  case body =>
    rintro l pre x a' W hl hrec ⟨f, hS, lf, hp⟩ ⟨Bx, hBx, hblk, rfl⟩ hlt
    have HW0 : Hid (W0.heap.size = w.heap.size + 1 + 1 + 1 + 1 + 1 + 1 + 1 + 1 + 1 + 1) := sW0
    clear sW0 hS0 hl hrec
    have hsz := hS.size
    have hxT := x.isLt
    have hxn : x.val < h.length := by have := HL.out; omega
    have hbd := hB' T[x.val] (List.getElem_mem _)
    obtain ⟨⟨y0, y1, y2, y3⟩, hy⟩ : ∃ y, T[x.val] = y := ⟨_, rfl⟩
    have HY : Hid (T[x.val] = (y0, y1, y2, y3)) := hy
    rw [hy] at hblk hbd ⊢
    simp only at hblk hbd
    clear hy
    obtain ⟨i, hxi⟩ : ∃ i, x.val = i := ⟨_, rfl⟩
    have HI : Hid (x.val = i) := hxi
    rw [hxi] at hxn hxT ⊢
    clear hxi
    obtain ⟨q, hq⟩ : ∃ q, (f y3).getD i = q := ⟨_, rfl⟩
    have HQ : Hid ((f y3).getD i = q) := hq
    have hqn : q < h.length := by have := lf.get y3 i hxT; have := HL.out; omega
    clear hq
    obtain ⟨bb, off, rfl, hblt, hcq⟩ := HC.out q hqn
    obtain ⟨bb', off', e', _, hci⟩ := HC.out i hxn
    obtain ⟨rfl, rfl⟩ : bb = bb' ∧ off = off' := by simpa using e'
    clear e'
    have hbq := hB h[q] (List.getElem_mem _)
    have hbi := hB h[i] (List.getElem_mem _)
    obtain ⟨p0, p1, p2, p3⟩ := IsEvs.at hqn hcq
    obtain ⟨o0, o1, o2, o3⟩ := IsEvs.at hxn hci
    obtain ⟨⟨u0, u1, u2, u3⟩, hu⟩ : ∃ y, h[q] = y := ⟨_, rfl⟩
    have HU : Hid (h[q] = (u0, u1, u2, u3)) := hu
    obtain ⟨⟨z0, z1, z2, z3⟩, hz⟩ : ∃ y, h[i] = y := ⟨_, rfl⟩
    have HZ : Hid (h[i] = (z0, z1, z2, z3)) := hz
    rw [hu] at hbq p0 p1 p2 p3
    rw [hz] at hbi o0 o1 o2 o3
    simp only at hbq hbi
    have CW : CP (.func (.func 49) #[] #[]) (.slice (some ⟨bb, off, none⟩) h.length cap) (firstsF (w.heap.size + 1 + 1 + 1 + 1 + 1 + 1 + 1)) (w.heap.size) (w.heap.size + 1) (w.heap.size + 1 + 1 + 1 + 1 + 1 + 1 + 1 + 1) Bx bb (off + q * 4) (off + i * 4) (y0, y1, y2, y3) (u0, u1, u2, u3) (z0, z1, z2, z3) W.drew :=
      ⟨hS.bt.cell, hS.bh.cell, hS.ff.cell, hblk.cell 0 _ rfl, hblk.cell 1 _ rfl, hblk.cell 2 _ rfl, hblk.cell 3 _ rfl, (hS.below.cell (p := ⟨bb, off + q * 4, none⟩) hblt).trans p0, (hS.below.cell (p := ⟨bb, off + q * 4 + 1, none⟩) hblt).trans p1, (hS.below.cell (p := ⟨bb, off + q * 4 + 2, none⟩) hblt).trans p2, (hS.below.cell (p := ⟨bb, off + q * 4 + 3, none⟩) hblt).trans p3, (hS.below.cell (p := ⟨bb, off + i * 4, none⟩) hblt).trans o0, (hS.below.cell (p := ⟨bb, off + i * 4 + 1, none⟩) hblt).trans o1, (hS.below.cell (p := ⟨bb, off + i * 4 + 2, none⟩) hblt).trans o2, (hS.below.cell (p := ⟨bb, off + i * 4 + 3, none⟩) hblt).trans o3⟩
    clear hu hz p0 p1 p2 p3 o0 o1 o2 o3 hcq hci
    have A0 := fun V => pvalOf_any y0 y1 y2 y3 V
    have A1 := fun V => pvalOf_any u0 u1 u2 u3 V
    have A2 := fun V => pvalOf_any z0 z1 z2 z3 V
    have F := fun V hV hV2 => pfirst_any V (w.heap.size + 1 + 1 + 1 + 1 + 1 + 1 + 1) (w.heap.size + 1 + 1 + 1 + 1 + 1 + 1) pre.length f y3 i hV hV2 (by have := HL.out; omega) (by omega) (by omega)
    rw [HQ.out] at F
    have ji : (i : Int) < (h.length : Int) := by omega
    have jq : (q : Int) < (h.length : Int) := by omega
    gi_wp2
    refine regionIn_any (by kernel_rfl) (fun ⟨_, _, h⟩ => h) (by kernel_rfl) ?_
    refine any_of_C (C := CP (.func (.func 49) #[] #[]) (.slice (some ⟨bb, off, none⟩) h.length cap) (firstsF (w.heap.size + 1 + 1 + 1 + 1 + 1 + 1 + 1)) (w.heap.size) (w.heap.size + 1) (w.heap.size + 1 + 1 + 1 + 1 + 1 + 1 + 1 + 1) Bx bb (off + q * 4) (off + i * 4) (y0, y1, y2, y3) (u0, u1, u2, u3) (z0, z1, z2, z3)) 18 _ _ _ _ ?_
    refine takeC (i := 0) (v := .func (.func 49) #[] #[]) rfl (by kernel_rfl) (by kernel_rfl) (by kernel_rfl) (by kernel_rfl) (by kernel_rfl) (fun _ _ _ h => h) (Or.inl ⟨by kernel_rfl, fun V hV => by obtain ⟨r0, r1, r2, r3, r4, r5, r6, r7, r8, r9, r10, r11, r12, r13, r14⟩ := hV; go_simp⟩) ?_
    refine takeC (i := 1) (v := .slice (some ⟨bb, off, none⟩) h.length cap) rfl (by kernel_rfl) (by kernel_rfl) (by kernel_rfl) (by kernel_rfl) (by kernel_rfl) (fun _ _ _ h => h) (Or.inl ⟨by kernel_rfl, fun V hV => by obtain ⟨r0, r1, r2, r3, r4, r5, r6, r7, r8, r9, r10, r11, r12, r13, r14⟩ := hV; go_simp⟩) ?_
    refine takeC (i := 2) (v := firstsF (w.heap.size + 1 + 1 + 1 + 1 + 1 + 1 + 1)) rfl (by kernel_rfl) (by kernel_rfl) (by kernel_rfl) (by kernel_rfl) (by kernel_rfl) (fun _ _ _ h => h) (Or.inl ⟨by kernel_rfl, fun V hV => by obtain ⟨r0, r1, r2, r3, r4, r5, r6, r7, r8, r9, r10, r11, r12, r13, r14⟩ := hV; go_simp⟩) ?_
    refine takeC (i := 3) (v := .func (.func 49) #[] #[]) rfl (by kernel_rfl) (by kernel_rfl) (by kernel_rfl) (by kernel_rfl) (by kernel_rfl) (fun _ _ _ h => h) (Or.inl ⟨by kernel_rfl, fun V hV => by obtain ⟨r0, r1, r2, r3, r4, r5, r6, r7, r8, r9, r10, r11, r12, r13, r14⟩ := hV; go_simp⟩) ?_
    refine takeC (i := 4) (v := evW (y0, y1, y2, y3)) rfl (by kernel_rfl) (by kernel_rfl) (by kernel_rfl) (by kernel_rfl) (by kernel_rfl) (fun _ _ _ h => h) (Or.inl ⟨by kernel_rfl, fun V hV => by obtain ⟨r0, r1, r2, r3, r4, r5, r6, r7, r8, r9, r10, r11, r12, r13, r14⟩ := hV; go_simp⟩) ?_
    refine takeC (i := 6) (v := .int .i64 (i : Int)) rfl (by kernel_rfl) (by kernel_rfl) (by kernel_rfl) (by kernel_rfl) (by kernel_rfl) (fun _ _ _ h => h) (Or.inl ⟨by kernel_rfl, fun V hV => by obtain ⟨r0, r1, r2, r3, r4, r5, r6, r7, r8, r9, r10, r11, r12, r13, r14⟩ := hV; go_simp⟩) ?_
    refine takeC (i := 11) (v := .func (.func 49) #[] #[]) rfl (by kernel_rfl) (by kernel_rfl) (by kernel_rfl) (by kernel_rfl) (by kernel_rfl) (fun _ _ _ h => h) (Or.inl ⟨by kernel_rfl, fun V hV => by obtain ⟨r0, r1, r2, r3, r4, r5, r6, r7, r8, r9, r10, r11, r12, r13, r14⟩ := hV; go_simp⟩) ?_
    refine takeC (i := 12) (v := .slice (some ⟨bb, off, none⟩) h.length cap) rfl (by kernel_rfl) (by kernel_rfl) (by kernel_rfl) (by kernel_rfl) (by kernel_rfl) (fun _ _ _ h => h) (Or.inl ⟨by kernel_rfl, fun V hV => by obtain ⟨r0, r1, r2, r3, r4, r5, r6, r7, r8, r9, r10, r11, r12, r13, r14⟩ := hV; go_simp⟩) ?_
    refine takeC (i := 13) (v := .int .i64 (i : Int)) rfl (by kernel_rfl) (by kernel_rfl) (by kernel_rfl) (by kernel_rfl) (by kernel_rfl) (fun _ _ _ h => h) (Or.inl ⟨by kernel_rfl, fun V hV => by obtain ⟨r0, r1, r2, r3, r4, r5, r6, r7, r8, r9, r10, r11, r12, r13, r14⟩ := hV; go_simp⟩) ?_
    refine takeC (i := 14) (v := .pointer (some ⟨bb, off + i * 4, none⟩)) rfl (by kernel_rfl) (by kernel_rfl) (by kernel_rfl) (by kernel_rfl) (by kernel_rfl) (fun _ _ _ h => h) (Or.inl ⟨by kernel_rfl, fun V hV => by obtain ⟨r0, r1, r2, r3, r4, r5, r6, r7, r8, r9, r10, r11, r12, r13, r14⟩ := hV; go_simp⟩) ?_
    refine takeC (i := 15) (v := evW (z0, z1, z2, z3)) rfl (by kernel_rfl) (by kernel_rfl) (by kernel_rfl) (by kernel_rfl) (by kernel_rfl) (fun _ _ _ h => h) (Or.inl ⟨by kernel_rfl, fun V hV => by obtain ⟨r0, r1, r2, r3, r4, r5, r6, r7, r8, r9, r10, r11, r12, r13, r14⟩ := hV; go_simp⟩) ?_
    refine consC (i := 5) (by kernel_rfl) (by kernel_rfl) CW rfl (fun K' hK => ?_)
    go_wp2_with fail
    refine (A0 _).mono ?_
    rintro e W5 ⟨rfl, b5⟩
    have b5' : Below W.heap.size W W5 := ⟨b5.os, b5.tape, b5.output, b5.size, b5.block⟩
    have CW5 := CW.bel b5
    have z5 := b5'.size
    have hS5 := hS.bel (b5'.mono hsz)
    go_wp2_with fail
    refine consC (i := 7) (by kernel_rfl) (by kernel_rfl) CW5 rfl (fun K' hK => ?_)
    go_wp2_with fail
    refine (F _ hS5.fb hS5.fM).mono ?_
    rintro e W7 ⟨rfl, hf7, g7⟩
    have CW7 := CW5.turn g7 (by omega) (by omega) (by omega) (by omega) (by omega)
    have z7 := g7.size
    have hS7 := hS5.turn g7 hf7
    go_wp2_with fail
    refine takeC (i := 8) (v := .pointer (some ⟨bb, off + q * 4, none⟩)) rfl (by kernel_rfl) (by kernel_rfl) (by kernel_rfl) (by kernel_rfl) (by kernel_rfl) (fun _ _ _ h => h) (Or.inl ⟨by kernel_rfl, fun V hV => by obtain ⟨r0, r1, r2, r3, r4, r5, r6, r7, r8, r9, r10, r11, r12, r13, r14⟩ := hV; go_simp⟩) ?_
    refine takeC (i := 9) (v := evW (u0, u1, u2, u3)) rfl (by kernel_rfl) (by kernel_rfl) (by kernel_rfl) (by kernel_rfl) (by kernel_rfl) (fun _ _ _ h => h) (Or.inl ⟨by kernel_rfl, fun V hV => by obtain ⟨r0, r1, r2, r3, r4, r5, r6, r7, r8, r9, r10, r11, r12, r13, r14⟩ := hV; go_simp⟩) ?_
    refine consC (i := 10) (by kernel_rfl) (by kernel_rfl) CW7 rfl (fun K' hK => ?_)
    go_wp2_with fail
    refine (A1 _).mono ?_
    rintro e W8 ⟨rfl, b8⟩
    have CW8 := CW7.bel b8
    have z8 := b8.size
    go_wp2_with fail
    refine consC (i := 16) (by kernel_rfl) (by kernel_rfl) CW8 rfl (fun K' hK => ?_)
    go_wp2_with fail
    refine (A2 _).mono ?_
    rintro e W9 ⟨rfl, b9⟩
    have CW9 := CW8.bel b9
    have z9 := b9.size
    have hS9 := (hS7.bel (b8.mono hS7.size)).bel (b9.mono (by have := hS7.size; omega))
    have KF : KeepsFrom W0.heap.size W W9 := by
      have hw0 := HW0.out
      exact (((keeps_of_below b5').from _).trans (KeepsFrom.of_grownBy g7 (fun j e => by cases e; omega))).trans (((keeps_of_below b8).trans (keeps_of_below b9)).from _)
    have BW : Below w.heap.size W W9 := (((b5'.mono (by omega)).grown g7 (by omega) (fun k e => by cases e; omega)).trans (b8.mono (by omega))).trans (b9.mono (by omega))
    have BE : W9.heap[w.heap.size + 1 + 1 + 1 + 1 + 1 + 1 + 1 + 1 + 1]? = W.heap[w.heap.size + 1 + 1 + 1 + 1 + 1 + 1 + 1 + 1 + 1]? := (((b9.block _ (by omega)).trans (b8.block _ (by omega))).trans (g7.block _ (by omega) (fun e => by have := Option.some.inj e; omega))).trans (b5'.block _ (by omega))
    go_wp2_with fail
    refine consC (i := 17) (by kernel_rfl) (by kernel_rfl) CW9 rfl (fun K' hK => ?_)
    go_wp2_with fail
    refine lastC (by kernel_rfl) (by kernel_rfl) CW9 (of_decide_eq_true (by kernel_rfl)) ?_
    refine any_seqI [18] [_] _ _ _ rfl (by kernel_rfl) ?_
    go_wp2_with fail
    clear CW CW5 CW7 CW8 CW9 A0 A1 A2 F hblk b5 b5' g7 hf7 b8 b9 hS hS5 hS7 z5 z7 z8 z9
    by_cases he : u3 = z3
    · have e1 : (u3 == z3) = true := by rw [he]; exact beq_self_eq_true _
      have e2 : (u3 != z3) = false := by rw [he]; simp
      have HF : Hid (KeepsFrom W0.heap.size W W9 ∧ KpE w.heap.size (w.heap.size + 1 + 1 + 1 + 1 + 1 + 1 + 1 + 1 + 1) W W9 ∧ PInvV w h T (.slice (some ⟨bb, off, none⟩) h.length cap) (.slice b T.length cap2) (pre ++ [x]) W9) := by
        refine ⟨KF, ⟨BW, BE⟩, updF f y3 i, by rw [List.length_append, List.length_singleton]; exact hS9, lf.upd _ _ hxT, fun hpre => ?_⟩
        obtain ⟨hp1, hp2, hp3⟩ := fin_prefix hpre
        obtain ⟨hf, hj⟩ := hp hp1
        have ei : i = pre.length := HI.out.symm.trans hp2
        subst ei
        have ek : ev T pre.length = (y0, y1, y2, y3) := by
          rw [ev_get T _ hp3]
          have := HY.out
          simp only [hp2] at this
          exact this
        have t2 : valAt T pre.length = y3 := by unfold valAt; rw [ek]
        have gq : valAt h q = u3 := by unfold valAt; rw [ev_get h q hqn, HU.out]
        have gi : valAt h pre.length = z3 := by unfold valAt; rw [ev_get h _ hxn, HZ.out]
        have hQ := HQ.out
        rw [List.length_append, List.length_singleton]
        subst hf
        rw [← t2]
        refine ⟨gF_next _ _, fun j hjl => ?_⟩
        rcases Nat.lt_or_ge j pre.length with h' | h'
        · exact hj j h'
        · have : j = pre.length := by omega
          subst this
          rw [t2, hQ, gq, gi, he]
      clear he KF BW BE hp lf HY HI HQ HU HZ
      gi_wp2
      exact HF.out
    · have e1 : (u3 == z3) = false := beq_eq_false_iff_ne.2 he
      have e2 : (u3 != z3) = true := by simp [bne, e1]
      have HP : Hid (pre ++ [x] <+: List.finRange T.length → pairR 6 (valAt h) (valAt T) T.length = (6 :: u3, 6 :: z3, true)) := by
        intro hpre
        obtain ⟨hp1, hp2, hp3⟩ := fin_prefix hpre
        obtain ⟨hf, hj⟩ := hp hp1
        have ei : i = pre.length := HI.out.symm.trans hp2
        subst ei
        have ek : ev T pre.length = (y0, y1, y2, y3) := by
          rw [ev_get T _ hp3]
          have := HY.out
          simp only [hp2] at this
          exact this
        have t2 : valAt T pre.length = y3 := by unfold valAt; rw [ek]
        have gq : valAt h q = u3 := by unfold valAt; rw [ev_get h q hqn, HU.out]
        have gi : valAt h pre.length = z3 := by unfold valAt; rw [ev_get h _ hxn, HZ.out]
        have hQ := HQ.out
        subst hf
        rw [← t2] at hQ
        have hk := pairR_some 6 (valAt h) (valAt T) T.length pre.length hp3 hj (by rw [hQ, gq, gi]; exact he)
        rw [hQ, gq, gi] at hk
        exact hk
      have B1 := fun V => pinput6 u3 (by omega) V
      have B2 := fun V => pinput6 z3 (by omega) V
      have ci := hS9.bi.cell
      clear he hp lf HY HI HQ HU HZ BW BE
      gi_wp2
      refine regionIn_any (by kernel_rfl) (fun ⟨_, _, h⟩ => h) (by kernel_rfl) ?_
      refine any_of_C (C := fun V' => V'.cell? ⟨w.heap.size + 1 + 1, 0, none⟩ = some (inF 6)) 6 _ _ _ _ ?_
      refine takeC (i := 0) (v := inF 6) rfl (by kernel_rfl) (by kernel_rfl) (by kernel_rfl) (by kernel_rfl) (by kernel_rfl) (fun _ _ _ h => h) (Or.inl ⟨by kernel_rfl, fun V hV => by go_simp⟩) ?_
      refine takeC (i := 1) (v := .string ⟨u3.toArray⟩) rfl (by kernel_rfl) (by kernel_rfl) (by kernel_rfl) (by kernel_rfl) (by kernel_rfl) (fun _ _ _ h => h) (Or.inl ⟨by kernel_rfl, fun V hV => by go_simp⟩) ?_
      refine takeCM 5 (i := 3) (v := inF 6) rfl (by kernel_rfl) (by kernel_rfl) (by kernel_rfl) (by kernel_rfl) (by kernel_rfl) (by kernel_rfl) (by kernel_rfl) (fun _ _ _ h => h) (Or.inl ⟨by kernel_rfl, fun V hV => by go_simp⟩) ?_
      refine takeCM 5 (i := 4) (v := .string ⟨z3.toArray⟩) rfl (by kernel_rfl) (by kernel_rfl) (by kernel_rfl) (by kernel_rfl) (by kernel_rfl) (by kernel_rfl) (by kernel_rfl) (fun _ _ _ h => h) (Or.inl ⟨by kernel_rfl, fun V hV => by go_simp⟩) ?_
      refine consC (i := 2) (by kernel_rfl) (by kernel_rfl) ci rfl (fun K' hK => ?_)
      go_wp2_with fail
      refine (B1 _).mono ?_
      rintro e V2 ⟨rfl, b2⟩
      have b2' : Below W9.heap.size W9 V2 := ⟨b2.os, b2.tape, b2.output, b2.size, b2.block⟩
      have sz2 := b2'.size
      have c2 := cell_bel b2' ci
      go_wp2_with fail
      refine consC (i := 5) (by kernel_rfl) (by kernel_rfl) c2 rfl (fun K' hK => ?_)
      go_wp2_with fail
      refine (B2 _).mono ?_
      rintro e V5 ⟨rfl, b5⟩
      have sz5 := b5.size
      have c5 := cell_bel b5 c2
      have h9 := hS9.size
      have hS5 := (hS9.bel (b2'.mono h9)).bel (b5.mono (by omega))
      have f1 := hS5.r1.cell
      have f2 := hS5.r2.cell
      have f3 := hS5.r3.cell
      have g1 := hS5.r1.frozen
      have g2 := hS5.r2.frozen
      have g3 := hS5.r3.frozen
      have HF : Hid (KeepsFrom W0.heap.size W (((V5.setCell ⟨w.heap.size + 1 + 1 + 1, 0, none⟩ (.string ⟨(6 :: u3).toArray⟩)).setCell ⟨w.heap.size + 1 + 1 + 1 + 1, 0, none⟩ (.string ⟨(6 :: z3).toArray⟩)).setCell ⟨w.heap.size + 1 + 1 + 1 + 1 + 1, 0, none⟩ (.bool true)) ∧ POutV w h T .ret (pre ++ [x]) (((V5.setCell ⟨w.heap.size + 1 + 1 + 1, 0, none⟩ (.string ⟨(6 :: u3).toArray⟩)).setCell ⟨w.heap.size + 1 + 1 + 1 + 1, 0, none⟩ (.string ⟨(6 :: z3).toArray⟩)).setCell ⟨w.heap.size + 1 + 1 + 1 + 1 + 1, 0, none⟩ (.bool true))) := by
        refine ⟨(KF.trans (((keeps_of_below b2').trans (keeps_of_below b5)).from _)).trans ((((KeepsOthers.setCell V5 _ _).trans (KeepsOthers.setCell _ _ _)).trans (KeepsOthers.setCell _ _ _)).from _), rfl, by simp; omega, ((hS5.below.setCell (p := ⟨w.heap.size + 1 + 1 + 1, 0, none⟩) (by simp; omega) _).setCell (p := ⟨w.heap.size + 1 + 1 + 1 + 1, 0, none⟩) (by simp; omega) _).setCell (p := ⟨w.heap.size + 1 + 1 + 1 + 1 + 1, 0, none⟩) (by simp; omega) _, 6 :: u3, 6 :: z3, ?_, ?_, ?_, HP.out⟩
        · exact ((hS5.r1.set _).other (by omega) _).other (by omega) _
        · exact ((hS5.r2.other (by omega) _).set _).other (by omega) _
        · exact ((hS5.r3.other (by omega) _).other (by omega) _).set _
      clear KF HP hS9 hS5 B1 B2
      go_wp2_with fail
      refine lastC (by kernel_rfl) (by kernel_rfl) c5 (of_decide_eq_true (by kernel_rfl)) ?_
      refine any_seqI [6, 7, 8] [_, _, _] _ _ _ rfl (by kernel_rfl) ?_
      go_wp2_with fail
      gi_wp2
      exact HF.out
  case done =>
    rintro D ys W hD rfl ⟨f, hS, _, hp⟩ hK
    obtain ⟨_, hj⟩ := hp (List.prefix_refl _)
    rw [List.length_finRange] at hj
    have HE : Hid (pairR 6 (valAt h) (valAt T) T.length = ([], [], false)) := pairR_none _ _ _ _ hj
    have f1 := hS.r1.cell
    have f2 := hS.r2.cell
    have f3 := hS.r3.cell
    have g1 := hS.r1.frozen
    have g2 := hS.r2.frozen
    have g3 := hS.r3.frozen
    have HD : Hid (w.heap.size + 1 + 1 + 1 + 1 + 1 + 1 + 1 + 1 + 1 + 1 ≤ D) := by rw [sW0] at hD; exact hD
    clear sW0 hS0 hD hp hj
    gi_wp2
    have hK' := (((KeepsOthers.setCell W ⟨w.heap.size + 1 + 1 + 1, 0, none⟩ (.string ⟨#[]⟩)).trans (KeepsOthers.setCell _ ⟨w.heap.size + 1 + 1 + 1 + 1, 0, none⟩ (.string ⟨#[]⟩))).trans (KeepsOthers.setCell _ ⟨w.heap.size + 1 + 1 + 1 + 1 + 1, 0, none⟩ (.bool false))).same D _ hK rfl
    have BZ : Below w.heap.size w (((W.setCell ⟨w.heap.size + 1 + 1 + 1, 0, none⟩ (.string ⟨#[]⟩)).setCell ⟨w.heap.size + 1 + 1 + 1 + 1, 0, none⟩ (.string ⟨#[]⟩)).setCell ⟨w.heap.size + 1 + 1 + 1 + 1 + 1, 0, none⟩ (.bool false)) := ((hS.below.setCell (p := ⟨w.heap.size + 1 + 1 + 1, 0, none⟩) (by simp; omega) _).setCell (p := ⟨w.heap.size + 1 + 1 + 1 + 1, 0, none⟩) (by simp; omega) _).setCell (p := ⟨w.heap.size + 1 + 1 + 1 + 1 + 1, 0, none⟩) (by simp; omega) _
    have q1 : Boxed (((W.setCell ⟨w.heap.size + 1 + 1 + 1, 0, none⟩ (.string ⟨#[]⟩)).setCell ⟨w.heap.size + 1 + 1 + 1 + 1, 0, none⟩ (.string ⟨#[]⟩)).setCell ⟨w.heap.size + 1 + 1 + 1 + 1 + 1, 0, none⟩ (.bool false)) (w.heap.size + 1 + 1 + 1) 9 (.string ⟨#[]⟩) := ((hS.r1.set _).other (by omega) _).other (by omega) _
    have q2 : Boxed (((W.setCell ⟨w.heap.size + 1 + 1 + 1, 0, none⟩ (.string ⟨#[]⟩)).setCell ⟨w.heap.size + 1 + 1 + 1 + 1, 0, none⟩ (.string ⟨#[]⟩)).setCell ⟨w.heap.size + 1 + 1 + 1 + 1 + 1, 0, none⟩ (.bool false)) (w.heap.size + 1 + 1 + 1 + 1) 9 (.string ⟨#[]⟩) := ((hS.r2.other (by omega) _).set _).other (by omega) _
    have q3 : Boxed (((W.setCell ⟨w.heap.size + 1 + 1 + 1, 0, none⟩ (.string ⟨#[]⟩)).setCell ⟨w.heap.size + 1 + 1 + 1 + 1, 0, none⟩ (.string ⟨#[]⟩)).setCell ⟨w.heap.size + 1 + 1 + 1 + 1 + 1, 0, none⟩ (.bool false)) (w.heap.size + 1 + 1 + 1 + 1 + 1) 4 (.bool false) := ((hS.r3.other (by omega) _).other (by omega) _).set _
    refine ⟨by simp, .inl ⟨_, _, rfl, run_takeDeferred hK', ?_⟩⟩
    have d1 := cell_kept q1.cell (grownBy_putObj' _ D (.deferred none)) (fun r e => by cases e; exact ⟨_, hK', rfl⟩)
    have d2 := cell_kept q2.cell (grownBy_putObj' _ D (.deferred none)) (fun r e => by cases e; exact ⟨_, hK', rfl⟩)
    have d3 := cell_kept q3.cell (grownBy_putObj' _ D (.deferred none)) (fun r e => by cases e; exact ⟨_, hK', rfl⟩)
    refine ⟨.tuple #[.string ⟨#[]⟩, .string ⟨#[]⟩, .bool false], ?_, by rw [HE.out]; rfl, BZ.trans (belowK_b (w := w) (Nat.le_refl _) _ D _ _ (by have := HD.out; omega) hK' rfl rfl)⟩
    refine results_cell3 rfl _ _ _ ?_
    simp [go_sem, d1, d2, d3]
  case stop =>
    rintro D c pre W hD hSp ⟨rfl, hs, hb, x, y, r1, r2, r3, hx⟩ hK
    have HE : Hid (pairR 6 (valAt h) (valAt T) T.length = (x, y, true)) := hx hSp
    have HD : Hid (w.heap.size + 1 + 1 + 1 + 1 + 1 + 1 + 1 + 1 + 1 + 1 ≤ D) := by rw [sW0] at hD; exact hD
    clear sW0 hS0 hD hx
    gi_wp2
    refine ⟨by simp, .inl ⟨_, _, rfl, run_takeDeferred hK, ?_⟩⟩
    have d1 := cell_kept r1.cell (grownBy_putObj' _ D (.deferred none)) (fun r e => by cases e; exact ⟨_, hK, rfl⟩)
    have d2 := cell_kept r2.cell (grownBy_putObj' _ D (.deferred none)) (fun r e => by cases e; exact ⟨_, hK, rfl⟩)
    have d3 := cell_kept r3.cell (grownBy_putObj' _ D (.deferred none)) (fun r e => by cases e; exact ⟨_, hK, rfl⟩)
    refine ⟨.tuple #[.string ⟨x.toArray⟩, .string ⟨y.toArray⟩, .bool true], ?_, by rw [HE.out]; rfl, hb.trans (belowK_b (w := w) (Nat.le_refl _) _ D _ _ (by have := HD.out; omega) hK rfl rfl)⟩
    refine results_cell3 rfl _ _ _ ?_
    simp [go_sem, d1, d2, d3]
end Go.Proofs.YtihggfkenhkglaaDoor
