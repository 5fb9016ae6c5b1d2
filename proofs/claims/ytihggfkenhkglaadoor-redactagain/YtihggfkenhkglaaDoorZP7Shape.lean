/-
  What redact.Shape answers.
-/
import Derived.Test.YtihggfkenhkglaaDoorGQ
import Derived.Test.YtihggfkenhkglaaDoorGH
import Derived.Test.YtihggfkenhkglaaDoorZP7S
import Derived.Lib.Hide
namespace Go.Proofs.YtihggfkenhkglaaDoor
set_option maxRecDepth 100000
open Go.RowKit Go.Shelf
set_option linter.unusedVariables false
attribute [local go_sem] Oper.semAt_some ba_size ba_append
/-- Where the blocks lie. -/
structure Num7 (N g M K V F : Nat) : Prop where
  a : N ≤ g
  b : g < M
  c : M < K
  d : K + 3 < V
  e : V + 3 < F
theorem FMap.bel {W W' : World} {B b n : Nat} {f : List UInt8 → Option Nat} (h : FMap W b n f) (hb : Below B W W') (hlt : b < B) : FMap W' b n f := by
  obtain ⟨D, ⟨es, clock, h1, h2⟩, h3⟩ := h
  exact ⟨D, ⟨es, clock, (hb.block b hlt).trans h1, h2⟩, h3⟩
theorem NBox.bel {W W' : World} {B b : Nat} {c : UInt8} (h : NBox W b c) (hb : Below B W W') (hlt : b + 3 < B) : NBox W' b c :=
  ⟨boxed_bel h.l hb (by omega), boxed_bel h.m hb (by omega), boxed_bel h.f hb (by omega)⟩
/-- What the loop of Shape keeps. -/
structure SSt (N g M K V F : Nat) (w : World) (n : Nat) (sl : Value) (L : List Ev) (m : Nat) (fk fv : List UInt8 → Option Nat) (W : World) : Prop where
  below : Below N w W
  size : F + 1 + 1 + 1 ≤ W.heap.size
  bt : Boxed W M 37 (.slice (some ⟨g, 0, none⟩) n n)
  nk : NBox W K 107
  kM : FMap W (K + 1) m fk
  nv : NBox W V 118
  vM : FMap W (V + 1) m fv
  kf : Boxed W F 57 (namesF K)
  vf : Boxed W (F + 1) 57 (namesF V)
  be : Boxed W (F + 1 + 1) 37 sl
  row : W.ownsRow N 23 4 (.slice (some ⟨g, 0, none⟩) n n) n (recV evV L)
  len : L.length = n
section
variable {N g M K V F : Nat} {w : World} {n : Nat} {sl : Value} {L : List Ev} {m : Nat} {fk fv : List UInt8 → Option Nat} {W W' : World}
theorem SSt.bel (h : SSt N g M K V F w n sl L m fk fv W) (u : Num7 N g M K V F) (hb : Below (F + 1 + 1 + 1) W W') : SSt N g M K V F w n sl L m fk fv W' := by
  obtain ⟨a, b, c, d, e⟩ := u
  exact ⟨h.below.trans (hb.mono (by omega)), Nat.le_trans h.size hb.size, boxed_bel h.bt hb (by omega), h.nk.bel hb (by omega), h.kM.bel hb (by omega), h.nv.bel hb (by omega), h.vM.bel hb (by omega), boxed_bel h.kf hb (by omega), boxed_bel h.vf hb (by omega), boxed_bel h.be hb (by omega), owns_bel h.row hb (by omega), h.len⟩
theorem SSt.put (h : SSt N g M K V F w n sl L m fk fv W) (u : Num7 N g M K V F) (i : Nat) (hi : i < n) (x : Ev) : SSt N g M K V F w n sl (L.set i x) m fk fv (putE W g i x) := by
  obtain ⟨a, b, c, d, e⟩ := u
  have o : ∀ b, b ≠ g → (putE W g i x).heap[b]? = W.heap[b]? := fun b hb => putE_other W g i x b hb
  refine ⟨putE_below h.below g i x (by omega), by rw [putE_size]; exact h.size, (o _ (by omega)).trans h.bt, ⟨(o _ (by omega)).trans h.nk.l, (o _ (by omega)).trans h.nk.m, (o _ (by omega)).trans h.nk.f⟩, ?_, ⟨(o _ (by omega)).trans h.nv.l, (o _ (by omega)).trans h.nv.m, (o _ (by omega)).trans h.nv.f⟩, ?_, (o _ (by omega)).trans h.kf, (o _ (by omega)).trans h.vf, (o _ (by omega)).trans h.be, putE_row h.row (by rw [h.len]; exact hi) x, by rw [List.length_set]; exact h.len⟩
  · obtain ⟨D, ⟨es, clock, h1, h2⟩, h3⟩ := h.kM
    exact ⟨D, ⟨es, clock, (o _ (by omega)).trans h1, h2⟩, h3⟩
  · obtain ⟨D, ⟨es, clock, h1, h2⟩, h3⟩ := h.vM
    exact ⟨D, ⟨es, clock, (o _ (by omega)).trans h1, h2⟩, h3⟩
/-- Two names asked for, one behind the other. -/
theorem SSt.two {W1 W2 : World} {fk' fv' : List UInt8 → Option Nat} (h : SSt N g M K V F w n sl L m fk fv W) (u : Num7 N g M K V F) (h1 : W.grownBy W1 (some (K + 1))) (k1 : FMap W1 (K + 1) (m + 1) fk') (h2 : W1.grownBy W2 (some (V + 1))) (k2 : FMap W2 (V + 1) (m + 1) fv') : SSt N g M K V F w n sl L (m + 1) fk' fv' W2 := by
  obtain ⟨a, b, c, d, e⟩ := u
  have hs := h.size
  have hs1 := h1.size
  have o : ∀ b, b < W.heap.size → b ≠ K + 1 → b ≠ V + 1 → W2.heap[b]? = W.heap[b]? := fun b hb n1 n2 => (h2.block b (by omega) (by simp; omega)).trans (h1.block b hb (by simp; omega))
  refine ⟨(h.below.grown h1 (by omega) (fun k e => by cases e; omega)).grown h2 (by omega) (fun k e => by cases e; omega), by have := h2.size; omega, (o _ (by omega) (by omega) (by omega)).trans h.bt, ⟨(o _ (by omega) (by omega) (by omega)).trans h.nk.l, (o _ (by omega) (by omega) (by omega)).trans h.nk.m, (o _ (by omega) (by omega) (by omega)).trans h.nk.f⟩, k1.kept h2 (by simp; omega), ⟨(o _ (by omega) (by omega) (by omega)).trans h.nv.l, (o _ (by omega) (by omega) (by omega)).trans h.nv.m, (o _ (by omega) (by omega) (by omega)).trans h.nv.f⟩, k2, (o _ (by omega) (by omega) (by omega)).trans h.kf, (o _ (by omega) (by omega) (by omega)).trans h.vf, (o _ (by omega) (by omega) (by omega)).trans h.be, ?_, h.len⟩
  exact (h.row.kept h1 (.inr (by simp [Value.ownBlock]; omega))).kept h2 (.inr (by simp [Value.ownBlock]; omega))
end
def SInv (N g M K V F : Nat) (w : World) (h : List Ev) (sl : Value) (pre : List (Fin h.length)) (W : World) : Prop :=
  ∃ L fk fv, SSt N g M K V F w h.length sl L pre.length fk fv W ∧ (lessF fk 100 ∧ lessF fv 100) ∧ (pre <+: List.finRange h.length → fk = sF (keyAt h) pre.length ∧ fv = sF (valAt h) pre.length ∧ L = shapeTo h pre.length ++ List.replicate (h.length - pre.length) EvZ)
theorem shape_set (h : List Ev) (k : Nat) (hk : k < h.length) (z : Ev) : (shapeTo h k ++ List.replicate (h.length - k) z).set k ((ev h k).1, (ev h k).2.1, nmF 107 (sF (keyAt h) k) (keyAt h k) k, nmF 118 (sF (valAt h) k) (valAt h k) k) = shapeTo h (k + 1) ++ List.replicate (h.length - (k + 1)) z := by
  have hl := shapeTo_len h k (by omega)
  rw [List.set_append_right _ _ (by omega), hl, Nat.sub_self, show h.length - k = (h.length - (k + 1)) + 1 by omega, List.replicate_succ, List.set_cons_zero, shapeTo_next h k hk, List.append_assoc]
  rfl
set_option maxHeartbeats 2000000 in
theorem pshape_any (h : List Ev) (v : Value) (w : World) (hT : IsEvs w v h) (hn : h.length ≤ 100) (hB : ∀ x ∈ h, x.2.2.1.length ≤ 1125899906842624 ∧ x.2.2.2.length ≤ 1125899906842624) :
    Calls Tryd.prog 21 #[v] w fun e w' => EvRow 23 w (shapeL h) e w' := by
  obtain ⟨i0, hi, hz0, hz1, hz2⟩ := info_parts ev_info7
  have hT0 := hT
  obtain ⟨a, cap, rfl, h1, h2, h3, HC⟩ := hT.some_at
  clear HC hT
  refine (callsIn_wide (n := 3)).1 ?_
  refine callsIn_of_wp_marks Tryd.func21 rfl trivial ?_ rfl
  simp only [Tryd.ntmps21, List.size_toArray, List.length_cons, List.length_nil, Nat.reduceAdd, Nat.reduceSub, Array.replicate_succ, Array.replicate_zero, List.push_toArray, List.append_toArray, List.nil_append, List.cons_append]
  gi_wp2_with (gi_at_make; refine wpListIn_make_full7 _ rfl _ _ 37 rfl w.heap.size 23 i0 (.agg #[.int .i64 0, .int .i64 0, .string ByteArray.empty, .string ByteArray.empty]) 4 Tryd.underlying37 hi hz0 hz1 .i64 .i64 _ _ h.length rfl rfl rfl rfl (by rw [hz2]; omega) (by unfold maxLen; omega) (by simp) ?_; intro w1 hown1 hgr1; refine Hid.out ?_)
  have hrow1 : w1.ownsRow w.heap.size 23 4 (.slice (some ⟨w.heap.size, 0, none⟩) h.length h.length) h.length (recV evV (List.replicate h.length EvZ)) := by
    have e := made_evs7 h.length
    have hown1' : w1.ownsRow w.heap.size 23 4 (.slice (some ⟨w.heap.size, 0, none⟩) h.length h.length) h.length (madeCells #[.int .i64 0, .int .i64 0, .string ByteArray.empty, .string ByteArray.empty] (h.length * 4)).toList := hown1
    rw [e] at hown1'
    exact hown1'
  clear hown1
  have hB1 : Below w.heap.size w w1 := (Below.refl _ w).grown hgr1 (Nat.le_refl _) (fun k e => by cases e)
  have gM : w.heap.size < w1.heap.size := (hrow1.lt _ rfl).2
  clear hgr1
  have tok1 : True := trivial
  refine Lib.hid ?_
  gi_wp2_with (first
    | ((try refine ⟨trivial, ?_⟩); gi_at_call 32; have _t := tok1; refine (callsIn_wide.2 (pnames_any _ _)).mono ?_; rintro e w3 ⟨rfl, nb3, fm3, hb3, hs3⟩; clear tok1; have HS3 := Lib.hid hs3; clear hs3)
    | ((try refine ⟨trivial, ?_⟩); gi_at_call 32; refine (callsIn_wide.2 (pnames_any _ _)).mono ?_; rintro e w4 ⟨rfl, nb4, fm4, hb4, hs4⟩; have HS4 := Lib.hid hs4; clear hs4)
    | ((try refine ⟨trivial, ?_⟩); gi_at_call 33; refine (callsIn_wide.2 (pevents_any _ _ _ _)).mono ?_; rintro e w2 ⟨rfl, rfl⟩))
  have s2 : (w1.alloc (.cells #[.slice (some ⟨w.heap.size, 0, none⟩) h.length h.length] 37)).heap.size = w1.heap.size + 1 := by simp
  rw [s2] at nb3 fm3 hb3 HS3
  have e3 := HS3.out
  have e4 := HS4.out
  have u : Num7 w.heap.size w.heap.size w1.heap.size (w1.heap.size + 1) w3.heap.size w4.heap.size := ⟨Nat.le_refl _, gM, by omega, by omega, by omega⟩
  have g34 : Below w3.heap.size w3 w4 := hb4
  have hS0 : SSt w.heap.size w.heap.size w1.heap.size (w1.heap.size + 1) w3.heap.size w4.heap.size w h.length (.slice a h.length cap) (List.replicate h.length EvZ) 0 (fun _ => none) (fun _ => none) (((w4.alloc (.cells #[namesF (w1.heap.size + 1)] 57)).alloc (.cells #[namesF w3.heap.size] 57)).alloc (.cells #[.slice a h.length cap] 37)) := by
    have B4 : Below w.heap.size w w4 := (hB1.trans (((Below.refl _ w1).alloc (by omega) _).trans (hb3.mono (by omega)))).trans (hb4.mono (by omega))
    have C4 : Below w3.heap.size w4 (((w4.alloc (.cells #[namesF (w1.heap.size + 1)] 57)).alloc (.cells #[namesF w3.heap.size] 57)).alloc (.cells #[.slice a h.length cap] 37)) := (((Below.refl _ w4).alloc (by omega) _).alloc (by simp; omega) _).alloc (by simp; omega) _
    have D4 : Below w4.heap.size w4 (((w4.alloc (.cells #[namesF (w1.heap.size + 1)] 57)).alloc (.cells #[namesF w3.heap.size] 57)).alloc (.cells #[.slice a h.length cap] 37)) := (((Below.refl _ w4).alloc (by omega) _).alloc (by simp) _).alloc (by simp; omega) _
    have b2 : Boxed (w1.alloc (.cells #[.slice (some ⟨w.heap.size, 0, none⟩) h.length h.length] 37)) w1.heap.size 37 (.slice (some ⟨w.heap.size, 0, none⟩) h.length h.length) := Boxed.new w1 37 _
    refine ⟨B4.trans (D4.mono (by omega)), by simp, boxed_bel (boxed_bel (boxed_bel b2 hb3 (by omega)) hb4 (by omega)) D4 (by omega), (nb3.bel hb4 (by omega)).bel D4 (by omega), (fm3.bel hb4 (by omega)).bel D4 (by omega), nb4.bel D4 (by omega), fm4.bel D4 (by omega), ?_, ?_, ?_, owns_bel (owns_bel (owns_bel (hrow1.alloc _) hb3 (by omega)) hb4 (by omega)) D4 (by omega), by simp⟩
    · exact ((Boxed.new w4 57 (namesF (w1.heap.size + 1))).alloc _).alloc _
    · have := (Boxed.new (w4.alloc (.cells #[namesF (w1.heap.size + 1)] 57)) 57 (namesF w3.heap.size)).alloc (.cells #[.slice a h.length cap] 37)
      rwa [World.size_alloc] at this
    · have := Boxed.new ((w4.alloc (.cells #[namesF (w1.heap.size + 1)] 57)).alloc (.cells #[namesF w3.heap.size] 57)) 37 (.slice a h.length cap)
      rwa [World.size_alloc, World.size_alloc] at this
  obtain ⟨W0, hW0⟩ : ∃ W0, ((w4.alloc (.cells #[namesF (w1.heap.size + 1)] 57)).alloc (.cells #[namesF w3.heap.size] 57)).alloc (.cells #[.slice a h.length cap] 37) = W0 := ⟨_, rfl⟩
  have sW0 : W0.heap.size = w4.heap.size + 1 + 1 + 1 := by rw [← hW0]; simp
  change Code.wpIn _ _ _ _ _ _ (((w4.alloc (.cells #[namesF (w1.heap.size + 1)] 57)).alloc (.cells #[namesF w3.heap.size] 57)).alloc (.cells #[.slice a h.length cap] 37))
  rw [hW0] at hS0 ⊢
  clear hW0 hrow1 hB1 nb3 fm3 hb3 HS3 nb4 fm4 hb4 HS4 e3 e4 g34 s2 gM _t
  generalize w4.heap.size = F at hS0 u sW0 ⊢
  generalize w3.heap.size = V at hS0 u ⊢
  generalize w1.heap.size + 1 = K at hS0 u ⊢
  generalize w1.heap.size = M at hS0 u ⊢
  obtain ⟨ua, ub, uc, ud, ue⟩ := id u
  refine wpIn_rangeFunc_ownH rfl (by omega) (gf := 46) (lb := #[.pointer (some ⟨F + 1 + 1, 0, none⟩)]) rfl trivial (enters_of Tryd.func46 (by kernel_rfl) rfl)
    (events_stops h w a cap hT0 (F + 1 + 1) (3 - 1) W0 hS0.below hS0.be) (fun h k => kpE_t h k) (kpE_b (by omega) (by omega)) (Below.refl _ _) (fun _ => rfl)
    (SInv w.heap.size w.heap.size M K V F w h (.slice a h.length cap)) (fun _ _ _ => False)
    (ownFrom_of_below (fun _ W ⟨L, fk, fv, h1, _⟩ => by rw [sW0]; exact h1.size) (fun _ W W' ⟨L, fk, fv, h1, h2⟩ hb => ⟨L, fk, fv, h1.bel u (by rw [sW0] at hb; exact hb), h2⟩))
    (fun _ => ownFrom_false _)
    ⟨_, _, _, hS0, ⟨lessF.zero _, lessF.zero _⟩, fun _ => ⟨(sF_zero _).symm, (sF_zero _).symm, by simp [shapeTo]⟩⟩
    (fun x a' W => ∃ Bx, F + 1 + 1 < Bx ∧ SBox W Bx 23 #[.int .i64 h[x.val].1, .int .i64 h[x.val].2.1, .string ⟨h[x.val].2.2.1.toArray⟩, .string ⟨h[x.val].2.2.2.toArray⟩] ∧ a' = { tmps := #[.slice a h.length cap, undef, .slice none 0 0, .pointer (some ⟨M, 0, none⟩), .pointer (some ⟨F, 0, none⟩), .pointer (some ⟨F + 1, 0, none⟩), .int .i64 (x.val : Int), .pointer (some ⟨Bx, 0, none⟩), .slice a h.length cap, .int .i64 h.length, .slice (some ⟨w.heap.size, 0, none⟩) h.length h.length, namesF K, namesF V, .slice a h.length cap, eventsF (F + 1 + 1), .int .i64 (x.val : Int), evW h[x.val], undef, undef, undef, undef, undef, undef, undef, undef, undef, undef, undef, undef, undef, undef, undef, undef, undef], defers := [] })
    (fun x a' _ A B row hs hg hr => by
      obtain ⟨Bx, h1, h2, h4⟩ := hs
      exact ⟨Bx, h1, block_kept h2 hg (fun r e => (hr r e).2), h4⟩)
    ?assign ?body ?done ?stop
  case assign =>
    rintro l pre x W K' ⟨L, fk, fv, hS, hp⟩ hK
    have hsz := hS.size
    gi_wp2
    refine hK _ _ ((KeepsOthers.alloc _ _).from _) ⟨(Below.refl _ W).alloc (by omega) _, Below.heap_alloc W _ _ (by omega)⟩ ⟨L, fk, fv, hS.bel u ((Below.refl _ W).alloc hsz _), hp⟩ ⟨W.heap.size, by omega, SBox.new W _ _, rfl⟩
  case body =>
    rintro l pre x a' W hl hrec ⟨L, fk, fv, hS, ⟨lk, lv⟩, hp⟩ ⟨Bx, hBx, hblk, rfl⟩ hlt
    have HW0 : Hid (W0.heap.size = F + 1 + 1 + 1) := sW0
    clear sW0 hS0 hl hrec
    have hsz := hS.size
    have hxn := x.isLt
    have hbd := hB h[x.val] (List.getElem_mem _)
    obtain ⟨⟨y0, y1, y2, y3⟩, hy⟩ : ∃ y, h[x.val] = y := ⟨_, rfl⟩
    have HY : Hid (h[x.val] = (y0, y1, y2, y3)) := hy
    rw [hy] at hblk hbd ⊢
    simp only at hblk hbd
    clear hy
    obtain ⟨i, hxi⟩ : ∃ i, x.val = i := ⟨_, rfl⟩
    have HI : Hid (x.val = i) := hxi
    rw [hxi] at hxn ⊢
    clear hxi
    have c0 := hS.kf.cell
    have c1 := hS.vf.cell
    have q2 := hblk.cell 2 _ rfl
    have q3 := hblk.cell 3 _ rfl
    have A1 := pname_any W.drew K pre.length 107 fk y2 i ⟨hS.nk.l, hS.nk.m, hS.nk.f⟩ hS.kM (by omega) (by omega) (by omega) lk
    have A2 := fun V' n1 n2 => pname_any V' V pre.length 118 fv y3 i n1 n2 (by omega) (by omega) (by omega) lv
    obtain ⟨nk, hnk⟩ : ∃ t, nmF 107 fk y2 i = t := ⟨_, rfl⟩
    obtain ⟨nv, hnv⟩ : ∃ t, nmF 118 fv y3 i = t := ⟨_, rfl⟩
    have HNK : Hid (nmF 107 fk y2 i = nk) := hnk
    have HNV : Hid (nmF 118 fv y3 i = nv) := hnv
    rw [hnk] at A1
    rw [hnv] at A2
    clear hnk hnv
    gi_wp2
    refine regionIn_any (by kernel_rfl) (fun ⟨_, _, h⟩ => h) (by kernel_rfl) ?_
    refine any_of_C (C := fun V' => V'.cell? ⟨F, 0, none⟩ = some (namesF K) ∧ V'.cell? ⟨F + 1, 0, none⟩ = some (namesF V) ∧ V'.cell? ⟨Bx, 2, none⟩ = some (.string ⟨y2.toArray⟩) ∧ V'.cell? ⟨Bx, 3, none⟩ = some (.string ⟨y3.toArray⟩)) 11 _ _ _ _ ?_
    refine takeC (i := 0) (v := namesF K) rfl (by kernel_rfl) (by kernel_rfl) (by kernel_rfl) (by kernel_rfl) (by kernel_rfl) (fun _ _ _ h => h) (Or.inl ⟨by kernel_rfl, fun V hV => by obtain ⟨r0, r1, r2, r3⟩ := hV; go_simp⟩) ?_
    refine takeC (i := 1) (v := .pointer (some ⟨Bx, 2, none⟩)) rfl (by kernel_rfl) (by kernel_rfl) (by kernel_rfl) (by kernel_rfl) (by kernel_rfl) (fun _ _ _ h => h) (Or.inl ⟨by kernel_rfl, fun V hV => by obtain ⟨r0, r1, r2, r3⟩ := hV; go_simp⟩) ?_
    refine takeC (i := 2) (v := .string ⟨y2.toArray⟩) rfl (by kernel_rfl) (by kernel_rfl) (by kernel_rfl) (by kernel_rfl) (by kernel_rfl) (fun _ _ _ h => h) (Or.inl ⟨by kernel_rfl, fun V hV => by obtain ⟨r0, r1, r2, r3⟩ := hV; go_simp⟩) ?_
    refine takeC (i := 3) (v := .int .i64 (i : Int)) rfl (by kernel_rfl) (by kernel_rfl) (by kernel_rfl) (by kernel_rfl) (by kernel_rfl) (fun _ _ _ h => h) (Or.inl ⟨by kernel_rfl, fun V hV => by obtain ⟨r0, r1, r2, r3⟩ := hV; go_simp⟩) ?_
    refine takeCM 9 (i := 5) (v := namesF V) rfl (by kernel_rfl) (by kernel_rfl) (by kernel_rfl) (by kernel_rfl) (by kernel_rfl) (by kernel_rfl) (by kernel_rfl) (fun _ _ _ h => h) (Or.inl ⟨by kernel_rfl, fun V hV => by obtain ⟨r0, r1, r2, r3⟩ := hV; go_simp⟩) ?_
    refine takeC (i := 6) (v := .pointer (some ⟨Bx, 3, none⟩)) rfl (by kernel_rfl) (by kernel_rfl) (by kernel_rfl) (by kernel_rfl) (by kernel_rfl) (fun _ _ _ h => h) (Or.inl ⟨by kernel_rfl, fun V hV => by obtain ⟨r0, r1, r2, r3⟩ := hV; go_simp⟩) ?_
    refine takeC (i := 7) (v := .string ⟨y3.toArray⟩) rfl (by kernel_rfl) (by kernel_rfl) (by kernel_rfl) (by kernel_rfl) (by kernel_rfl) (fun _ _ _ h => h) (Or.inl ⟨by kernel_rfl, fun V hV => by obtain ⟨r0, r1, r2, r3⟩ := hV; go_simp⟩) ?_
    refine takeCM 9 (i := 8) (v := .int .i64 (i : Int)) rfl (by kernel_rfl) (by kernel_rfl) (by kernel_rfl) (by kernel_rfl) (by kernel_rfl) (by kernel_rfl) (by kernel_rfl) (fun _ _ _ h => h) (Or.inl ⟨by kernel_rfl, fun V hV => by obtain ⟨r0, r1, r2, r3⟩ := hV; go_simp⟩) ?_
    refine consC (i := 4) (by kernel_rfl) (by kernel_rfl) ⟨c0, c1, q2, q3⟩ rfl (fun K' hK => ?_)
    go_wp2_with fail
    refine A1.mono ?_
    rintro e W3 ⟨rfl, hk3, hg3⟩
    have hg3' : W.grownBy W3 (some (K + 1)) := ⟨hg3.os, hg3.tape, hg3.output, hg3.size, hg3.block⟩
    have hz3 := hg3'.size
    have hblk3 : SBox W3 Bx 23 _ := (hg3'.block Bx hblk.lt (by simp; omega)).trans hblk
    have d0 := (hS.kf.kept hg3' (by simp; omega)).cell
    have d1 := (hS.vf.kept hg3' (by simp; omega)).cell
    have p2 := hblk3.cell 2 _ rfl
    have p3 := hblk3.cell 3 _ rfl
    have A2' := A2 W3 (hS.nv.kept hg3' (by simp; omega) (by simp; omega) (by simp; omega)) (hS.vM.kept hg3' (by simp; omega))
    clear A2 c0 c1 q2 q3
    go_wp2_with fail
    refine takeC (i := 10) (v := .pointer (some ⟨Bx, 2, none⟩)) rfl (by kernel_rfl) (by kernel_rfl) (by kernel_rfl) (by kernel_rfl) (by kernel_rfl) (fun _ _ _ h => h) (Or.inl ⟨by kernel_rfl, fun V hV => by obtain ⟨r0, r1, r2, r3⟩ := hV; go_simp⟩) ?_
    refine consC (i := 9) (by kernel_rfl) (by kernel_rfl) ⟨d0, d1, p2, p3⟩ rfl (fun K' hK => ?_)
    go_wp2_with fail
    refine A2'.mono ?_
    rintro e W4 ⟨rfl, hk4, hg4⟩
    have hz4 := hg4.size
    have hblk4 : SBox W4 Bx 23 _ := (hg4.block Bx hblk3.lt (by simp; omega)).trans hblk3
    have hS4 := hS.two u hg3' hk3 hg4 hk4
    have e0 := hS4.kf.cell
    have e1 := hS4.vf.cell
    have o2 : W4.cell? ⟨Bx, 2, none⟩ = some (.string ⟨y2.toArray⟩) := hblk4.cell 2 _ rfl
    have o3 : W4.cell? ⟨Bx, 3, none⟩ = some (.string ⟨y3.toArray⟩) := hblk4.cell 3 _ rfl
    have fr2 := hblk4.frozen 2
    have fr3 := hblk4.frozen 3
    clear d0 d1 p2 p3
    go_wp2_with fail
    refine lastC (by kernel_rfl) (by kernel_rfl) ⟨e0, e1, o2, o3⟩ (of_decide_eq_true (by kernel_rfl)) ?_
    refine any_seqI [11, 12, 13] [_, _, _] _ _ _ rfl (by kernel_rfl) ?_
    go_wp2_with fail
    obtain ⟨W5, hW5⟩ : ∃ W5, (W4.setCell ⟨Bx, 2, none⟩ (.string ⟨nk.toArray⟩)).setCell ⟨Bx, 3, none⟩ (.string ⟨nv.toArray⟩) = W5 := ⟨_, rfl⟩
    have hblk5 : SBox W5 Bx 23 #[.int .i64 y0, .int .i64 y1, .string ⟨nk.toArray⟩, .string ⟨nv.toArray⟩] := by rw [← hW5]; exact (hblk4.set 2 _).set 3 _
    have B45 : Below (F + 1 + 1 + 1) W4 W5 := by rw [← hW5]; exact ((Below.refl _ W4).setCell (p := ⟨Bx, 2, none⟩) (by simp; omega) _).setCell (p := ⟨Bx, 3, none⟩) (by simp; omega) _
    have KF : KeepsFrom W0.heap.size W W5 := by
      have hw0 := HW0.out
      refine ((KeepsFrom.of_grownBy hg3' (fun j e => by cases e; omega)).trans (KeepsFrom.of_grownBy hg4 (fun j e => by cases e; omega))).trans ?_
      rw [← hW5]
      exact ((KeepsOthers.setCell W4 _ _).trans (KeepsOthers.setCell _ _ _)).from _
    have hS5 := hS4.bel u B45
    have BW : Below w.heap.size W W5 := (((Below.refl _ W).grown hg3' (by omega) (fun k e => by cases e; omega)).grown hg4 (by omega) (fun k e => by cases e; omega)).trans (B45.mono (by omega))
    have BE : W5.heap[F + 1 + 1]? = W.heap[F + 1 + 1]? := ((B45.block _ (by omega)).trans (hg4.block _ (by omega) (by simp; omega))).trans (hg3'.block _ (by omega) (by simp; omega))
    rw [hW5]
    clear hW5 e0 e1 o2 o3 fr2 fr3 hblk hblk3 hblk4 A1 A2'
    have t0 : W5.cell? ⟨Bx, 0, none⟩ = some (.int .i64 y0) := hblk5.cell 0 _ rfl
    have t1 : W5.cell? ⟨Bx, 1, none⟩ = some (.int .i64 y1) := hblk5.cell 1 _ rfl
    have t2 : W5.cell? ⟨Bx, 2, none⟩ = some (.string ⟨nk.toArray⟩) := hblk5.cell 2 _ rfl
    have t3 : W5.cell? ⟨Bx, 3, none⟩ = some (.string ⟨nv.toArray⟩) := hblk5.cell 3 _ rfl
    have c6 := hS5.bt.cell
    obtain ⟨z, ⟨f0, f1, f2, f3⟩, g0, g1, g2, g3⟩ := row_cells hS5.row hS5.len hxn
    have HF : Hid (KeepsFrom W0.heap.size W (putE W5 w.heap.size i (y0, y1, nk, nv)) ∧ KpE w.heap.size (F + 1 + 1) W (putE W5 w.heap.size i (y0, y1, nk, nv)) ∧ SInv w.heap.size w.heap.size M K V F w h (.slice a h.length cap) (pre ++ [x]) (putE W5 w.heap.size i (y0, y1, nk, nv))) := by
      refine ⟨KF.trans ((putE_keeps _ _ _ _).from _), ⟨putE_below BW _ _ _ (Nat.le_refl _), ?_⟩, L.set i (y0, y1, nk, nv), stepF fk y2 i, stepF fv y3 i, ?_, ⟨lk.step _ _ (by omega), lv.step _ _ (by omega)⟩, fun hpre => ?_⟩
      · rw [putE_other _ _ _ _ _ (by omega)]; exact BE
      · rw [List.length_append, List.length_singleton]
        exact hS5.put u i hxn _
      · obtain ⟨hp1, hp2, hp3⟩ := fin_prefix hpre
        obtain ⟨hk, hv, hL⟩ := hp hp1
        have ei : i = pre.length := HI.out.symm.trans hp2
        have ek : ev h pre.length = (y0, y1, y2, y3) := by
          rw [ev_get h _ hp3]
          have := HY.out
          simp only [hp2] at this
          exact this
        have k2 : keyAt h pre.length = y2 := by unfold keyAt; rw [ek]
        have v3 : valAt h pre.length = y3 := by unfold valAt; rw [ek]
        have e1 := HNK.out
        have e2 := HNV.out
        rw [List.length_append, List.length_singleton]
        subst ei
        rw [← k2] at e1 ⊢
        rw [← v3] at e2 ⊢
        subst hk hv hL
        refine ⟨sF_next _ _, sF_next _ _, ?_⟩
        rw [← shape_set h pre.length hp3 EvZ, ek, e1, e2]
    clear hS hS4 hS5 KF hp HY HI HNK HNV BW BE lk lv hk3 hk4
    gi_wp2
    exact HF.out
  case done =>
    rintro D ys W hD rfl ⟨L, fk, fv, hS, _, hp⟩ hK
    obtain ⟨_, _, hL⟩ := hp (List.prefix_refl _)
    rw [List.length_finRange, shapeTo_all, Nat.sub_self, List.replicate_zero, List.append_nil] at hL
    have hrow := hS.row
    rw [hL] at hrow
    have HT : Hid ((shapeL h).length = h.length) := shape_len h
    have c6 := hS.bt.cell
    have HD : Hid (F + 1 + 1 + 1 ≤ D) := by rw [sW0] at hD; exact hD
    clear sW0 hS0 hD hp hL
    gi_wp2
    refine ⟨by simp, .inl ⟨_, _, rfl, run_takeDeferred hK, ?_⟩⟩
    refine ⟨_, results_tmp rfl _ _ _, _, rfl, hS.below.trans (belowK_b (w := w) (Nat.le_refl _) _ D _ _ (by have := HD.out; omega) hK rfl rfl), ?_⟩
    rw [HT.out]
    exact ownsRow_putObj hrow _ hK rfl
  case stop =>
    rintro D c pre W hD hSp h hK
    exact h.elim
end Go.Proofs.YtihggfkenhkglaaDoor
