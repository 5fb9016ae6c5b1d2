/-
  What history.Keys answers.
-/
import Derived.Test.YteehpkkkagdckaaGP
import Derived.Test.YteehpkkkagdckaaGA
import Derived.Test.YteehpkkkagdckaaGN
import Derived.Test.YteehpkkkagdckaaGE
import Derived.Sort.OwnSorted
namespace Go.Proofs.Yteehpkkkagdckaa
set_option maxRecDepth 100000
open Go.RowKit Go.Shelf Go.Maps
set_option linter.unusedVariables false
attribute [local go_sem] Oper.semAt_some ba_size
structure QSt (w : World) (sl v : Value) (m : Nat) (q : List UInt8 → Bool) (K : List (List UInt8)) (W : World) : Prop where
  below : Below w.heap.size w W
  size : w.heap.size + 1 + 1 + 1 + 1 ≤ W.heap.size
  bv : Boxed W (w.heap.size) 53 v
  bm : TSet W (w.heap.size + 1) m q
  bb : Boxed W (w.heap.size + 1 + 1) 71 (.map (some (w.heap.size + 1)))
  be : Boxed W (w.heap.size + 1 + 1 + 1) 22 sl
  row : W.ownsRow w.heap.size 9 1 v K.length (strV K)
  far : ∀ g, v.ownBlock = some g → w.heap.size + 1 + 1 + 1 + 1 ≤ g
section
variable {w : World} {sl v : Value} {m : Nat} {q : List UInt8 → Bool} {K : List (List UInt8)} {W W' : World} {row : Option Nat}
theorem QSt.turn (h : QSt w sl v m q K W) (hg : W.grownBy W' row) (hr : ∀ r, row = some r → w.heap.size + 1 + 1 + 1 + 1 ≤ r ∧ ∃ o : Obj, W.heap[r]? = some o ∧ o.isCells = false) : QSt w sl v m q K W' := by
  have o : ∀ j, j < w.heap.size + 1 + 1 + 1 + 1 → some j ≠ row := fun j hj e => by have := (hr j e.symm).1; omega
  exact ⟨h.below.grown hg (by have := h.size; omega) (fun r e => by have := (hr r e).1; omega), Nat.le_trans h.size hg.size, h.bv.kept hg (o _ (by omega)), h.bm.kept hg (o _ (by omega)), h.bb.kept hg (o _ (by omega)), h.be.kept hg (o _ (by omega)), owns_turn h.row hg (fun r e => (hr r e).2), h.far⟩
theorem QSt.bel (h : QSt w sl v m q K W) (hb : Below W.heap.size W W') : QSt w sl v m q K W' := h.turn (grown_below8 none hb) (fun r e => by cases e)
theorem QSt.map {m' : Nat} {q' : List UInt8 → Bool} (h : QSt w sl v m q K W) (hg : W.grownBy W' (some (w.heap.size + 1))) (hf : TSet W' (w.heap.size + 1) m' q') : QSt w sl v m' q' K W' := by
  have o : ∀ j, j ≠ w.heap.size + 1 → some j ≠ some (w.heap.size + 1) := fun j hj e => hj (Option.some.inj e)
  refine ⟨h.below.grown hg (by have := h.size; omega) (fun r e => by cases e; omega), Nat.le_trans h.size hg.size, h.bv.kept hg (o _ (by omega)), hf, h.bb.kept hg (o _ (by omega)), h.be.kept hg (o _ (by omega)), h.row.kept hg ?_, h.far⟩
  cases hv : v.ownBlock with
  | none => exact .inl rfl
  | some g => exact .inr (fun e => by have := h.far g hv; have := Option.some.inj e; omega)
theorem QSt.keep (h : QSt w sl v m q K W) {m' : Nat} (hm : m ≤ m') : QSt w sl v m' q K W := ⟨h.below, h.size, h.bv, h.bm.mono hm, h.bb, h.be, h.row, h.far⟩
theorem QSt.app {v' : Value} {K' : List (List UInt8)} {tmp : Obj} (h : QSt w sl v m q K W) (hown : W'.ownsRow w.heap.size 9 1 v' K'.length (strV K')) (hg : (W.alloc tmp).grownBy W' v.ownBlock) (hat : v'.ownBlock = v.ownBlock ∨ v'.ownBlock = some (W.heap.size + 1)) :
    QSt w sl v' m q K' (W'.setCell ⟨w.heap.size, 0, none⟩ v') := by
  have hs := h.size
  have hfar : ∀ g, v'.ownBlock = some g → w.heap.size + 1 + 1 + 1 + 1 ≤ g := fun g hv => by
    rcases hat with e | e
    · exact h.far g (by rw [← e]; exact hv)
    · rw [hv] at e
      have := Option.some.inj e
      omega
  have o : ∀ j, j < w.heap.size + 1 + 1 + 1 + 1 → some j ≠ v.ownBlock := fun j hj e => by have := h.far j e.symm; omega
  have hsz := hg.size
  rw [World.size_alloc] at hsz
  have hb : Below w.heap.size w W' := (h.below.alloc h.below.size _).grown hg (by simp; omega) (fun r e => by have := h.far r e; omega)
  refine ⟨hb.setCell (p := ⟨w.heap.size, 0, none⟩) (Nat.le_refl _) _, by simp; omega, ((h.bv.alloc _).kept hg (o _ (by omega))).set _, ?_, ((h.bb.alloc _).kept hg (o _ (by omega))).other (by omega) _, ((h.be.alloc _).kept hg (o _ (by omega))).other (by omega) _, owns_keep7 (g := w.heap.size) (j := 0) hown _ (fun e => by have := hfar _ e.symm; omega), hfar⟩
  refine TSet.same (W := W') ((h.bm.kept (World.grownBy_alloc _ tmp none) (by simp)).kept hg (o _ (by omega))) ?_
  exact Below.heap_setCell _ _ _ _ (by simp)
end
theorem str_info8k : (Try.prog.info? 9).map (fun i => (i.zero, i.size, i.bytes)) = some (some (.string ByteArray.empty), 1, 16) := by kernel_rfl
theorem strV_one (K : List (List UInt8)) (y : List UInt8) : strV (K ++ [y]) = strV K ++ [.string ⟨y.toArray⟩] := by unfold strV; rw [List.map_append]; rfl
theorem zero8u' (w : World) : (zeroValue 75).run Try.prog w = .ok (.agg #[]) w := by kernel_rfl
theorem kpE_bel8 {n b : Nat} {W W' : World} (hn : n ≤ W.heap.size) (hb : b < W.heap.size) (h : Below W.heap.size W W') : KpE n b W W' := ⟨h.mono hn, h.block b hb⟩
theorem kpE_grown8 {n b : Nat} {W W' : World} {row : Option Nat} (hn : n ≤ W.heap.size) (hb : b < W.heap.size) (hg : W.grownBy W' row) (hr : ∀ r, row = some r → n ≤ r ∧ r ≠ b) : KpE n b W W' :=
  ⟨(Below.refl n W).grown hg hn (fun r e => (hr r e).1), hg.block b hb (fun e => (hr b e.symm).2 rfl)⟩
def QInv (w : World) (sl : Value) (h : List Ev) (pre : List (Fin h.length)) (W : World) : Prop :=
  ∃ v, QSt w sl v pre.length (fun t => decide (t ∈ kyF h pre)) (kyF h pre) W
set_option maxHeartbeats 4000000 in
theorem pkeys8_any (h : List Ev) (v : Value) (w : World) (hT : IsEvs w v h) (hG : ∀ x ∈ h, goodE x) (hn : h.length ≤ 300) :
    Calls Try.prog 28 #[v] w fun e w' => TxsRow w (keysL h) e w' := by
  have hT0 := hT
  obtain ⟨a, cap, rfl, h1, h2, h3, HC⟩ := hT.some_at
  clear HC hT
  have hmm := @run_makeMap Try.prog
  obtain ⟨i0, hi, hz0, hz1, hz2⟩ := info_parts str_info8k
  refine (callsIn_wide (n := 3)).1 ?_
  refine callsIn_of_wp_marks Try.func28 rfl trivial ?_ rfl
  simp only [Try.ntmps28, List.size_toArray, List.length_cons, List.length_nil, Nat.reduceAdd, Nat.reduceSub, Array.replicate_succ, Array.replicate_zero, List.push_toArray, List.append_toArray, List.nil_append, List.cons_append]
  gi_wp2_with ((try refine ⟨trivial, ?_⟩); gi_at_call 47; refine (callsIn_wide.2 (pevents8_any _ _ _ _)).mono ?_; rintro e w2 ⟨rfl, rfl⟩)
  have hS0 : QSt w (.slice a h.length cap) (.slice none 0 0) 0 (fun _ => false) [] ((((w.alloc (.cells #[.slice none 0 0] 53)).alloc (.map #[] 0)).alloc (.cells #[.map (some (w.heap.size + 1))] 71)).alloc (.cells #[.slice a h.length cap] 22)) := by
    have b0 := (((Boxed.new w 53 (.slice none 0 0)).alloc (.map #[] 0)).alloc (.cells #[.map (some (w.heap.size + 1))] 71)).alloc (.cells #[.slice a h.length cap] 22)
    have b1 := ((TSet.made (w.alloc (.cells #[.slice none 0 0] 53))).kept (World.grownBy_alloc _ (.cells #[.map (some (w.heap.size + 1))] 71) none) (by simp)).kept (World.grownBy_alloc _ (.cells #[.slice a h.length cap] 22) none) (by simp)
    have b2 := (Boxed.new ((w.alloc (.cells #[.slice none 0 0] 53)).alloc (.map #[] 0)) 71 (.map (some (w.heap.size + 1)))).alloc (.cells #[.slice a h.length cap] 22)
    have b3 := Boxed.new (((w.alloc (.cells #[.slice none 0 0] 53)).alloc (.map #[] 0)).alloc (.cells #[.map (some (w.heap.size + 1))] 71)) 22 (.slice a h.length cap)
    simp only [World.size_alloc] at b0 b1 b2 b3
    exact ⟨((((Below.refl _ w).alloc (Nat.le_refl _) _).alloc (by simp) _).alloc (by simp; omega) _).alloc (by simp; omega) _, by simp, b0, b1, b2, b3, World.ownsRow_nil _ _ _ _, fun g hg => by simp [Value.ownBlock] at hg⟩
  obtain ⟨W0, hW0⟩ : ∃ W0, ((((w.alloc (.cells #[.slice none 0 0] 53)).alloc (.map #[] 0)).alloc (.cells #[.map (some (w.heap.size + 1))] 71)).alloc (.cells #[.slice a h.length cap] 22)) = W0 := ⟨_, rfl⟩
  have sW0 : W0.heap.size = w.heap.size + 1 + 1 + 1 + 1 := by rw [← hW0]; simp
  change Code.wpIn _ _ _ _ _ _ ((((w.alloc (.cells #[.slice none 0 0] 53)).alloc (.map #[] 0)).alloc (.cells #[.map (some (w.heap.size + 1))] 71)).alloc (.cells #[.slice a h.length cap] 22))
  rw [hW0] at hS0 ⊢
  clear hW0
  refine wpIn_rangeFunc_ownH rfl (by omega) (gf := 63) (lb := #[.pointer (some ⟨w.heap.size + 1 + 1 + 1, 0, none⟩)]) rfl trivial (enters_of Try.func63 (by kernel_rfl) rfl)
    (events8_stops h w a cap hT0 (w.heap.size + 1 + 1 + 1) (3 - 1) W0 hS0.below hS0.be) (fun h k => kpE_t h k) (kpE_b (by omega) (by omega)) (Below.refl _ _) (fun _ => rfl)
    (QInv w (.slice a h.length cap) h) (fun _ _ _ => False)
    (fun s X Y row ⟨v, hs⟩ hg hr => ⟨v, hs.turn hg (fun r e => ⟨by have := (hr r e).1; omega, (hr r e).2⟩)⟩)
    (fun _ => ownFrom_false _)
    ⟨_, by
      have e : (fun t : List UInt8 => decide (t ∈ kyF h [])) = fun _ => false := by funext t; show decide (t ∈ []) = false; simp
      rw [e]
      exact hS0⟩
    (fun x a' W => ∃ Bx, w.heap.size + 1 + 1 + 1 < Bx ∧ SBox W Bx 48 #[.int .i64 h[x.val].1, .int .i64 h[x.val].2.1, .string ⟨h[x.val].2.2.1.toArray⟩, .string ⟨h[x.val].2.2.2.toArray⟩] ∧ a' = { tmps := #[.slice a h.length cap, undef, .slice none 0 0, .pointer (some ⟨w.heap.size, 0, none⟩), .pointer (some ⟨w.heap.size + 1 + 1, 0, none⟩), undef, .pointer (some ⟨Bx, 0, none⟩), undef, undef, .map (some (w.heap.size + 1)), .slice a h.length cap, eventsF8 (w.heap.size + 1 + 1 + 1), .int .i64 (x.val : Int), evW h[x.val], undef, undef, undef, undef, undef, undef, undef, undef, undef, undef, undef, undef, undef, undef, undef, undef, undef, undef, undef, undef, undef, undef, undef, undef, undef, undef, undef, undef, undef], defers := [] })
    (fun x a' _ A B row hs hg hr => by
      obtain ⟨Bx, h1, h2, h4⟩ := hs
      exact ⟨Bx, h1, block_kept h2 hg (fun r e => (hr r e).2), h4⟩)
    ?assign ?body ?done ?stop
  case assign =>
    rintro l pre x W K ⟨v, hS⟩ hK
    have hsz := hS.size
    have b1 := (Below.refl W.heap.size W).alloc (Nat.le_refl _) (.cells #[.int .i64 h[x.val].1, .int .i64 h[x.val].2.1, .string ⟨h[x.val].2.2.1.toArray⟩, .string ⟨h[x.val].2.2.2.toArray⟩] 48)
    gi_wp2
    refine hK _ _ ((KeepsOthers.alloc _ _).from _) (kpE_bel8 (by omega) (by omega) b1) ⟨v, hS.bel b1⟩ ⟨W.heap.size, by omega, SBox.new W _ _, rfl⟩
  case body =>
    rintro l pre x a' W hl hrec ⟨v, hS⟩ ⟨Bx, hBx, hblk, rfl⟩ hlt
    have HW0 : Hid (W0.heap.size = w.heap.size + 1 + 1 + 1 + 1) := sW0
    clear sW0 hS0 hl hrec
    have hsz := hS.size
    have hxn := x.isLt
    have hgx := hG h[x.val] (List.getElem_mem _)
    obtain ⟨⟨y0, y1, y2, y3⟩, hy⟩ : ∃ y, h[x.val] = y := ⟨_, rfl⟩
    have HV : Hid (kyF h (pre ++ [x]) = kyS (kyF h pre) (y0, y1, y2, y3)) := by show _ = _; rw [kyF_snoc, hy]
    have lenL := kyF_len h pre
    obtain ⟨K, hs⟩ : ∃ K, kyF h pre = K := ⟨_, rfl⟩
    rw [hs] at hS lenL HV
    clear hs
    rw [hy] at hblk hgx ⊢
    simp only at hblk hgx
    clear hy
    have ki := key8s (t := y2) (by have hl : y2.length ≤ 140737488351232 := hgx.2.2.1; omega)
    clear hgx
    obtain ⟨i, hxi⟩ : ∃ i, x.val = i := ⟨_, rfl⟩
    rw [hxi] at hxn ⊢
    clear hxi
    have LX : Hid ((pre ++ [x]).length = pre.length + 1) := by show _ = _; simp
    have c3 := hS.bb.cell
    have q0 := hblk.cell 0 _ rfl
    have q2 := hblk.cell 2 _ rfl
    have bU := (Below.refl W.heap.size W).alloc (Nat.le_refl _) (.cells #[] 75)
    obtain ⟨D1, hown1, hD1⟩ := hS.bm
    have hy1 := hD1 y2
    by_cases hk : y0 = 2 ∨ y0 = 3
    · have e2 : (y0 != 2) = false ∨ (y0 != 2) = true ∧ (y0 != 3) = false := by
        rcases hk with rfl | rfl
        · exact Or.inl rfl
        · exact Or.inr ⟨rfl, rfl⟩
      by_cases hm : y2 ∈ K
      · have HF : Hid (KeepsFrom W0.heap.size W (W.alloc (.cells #[] 75)) ∧ KpE w.heap.size (w.heap.size + 1 + 1 + 1) W (W.alloc (.cells #[] 75)) ∧ QInv w (.slice a h.length cap) h (pre ++ [x]) (W.alloc (.cells #[] 75))) := by
          refine ⟨(KeepsOthers.alloc _ _).from _, kpE_bel8 (by omega) (by omega) bU, v, ?_⟩
          have e : kyS K (y0, y1, y2, y3) = K := by unfold kyS; rw [if_pos hk, if_pos hm]
          rw [LX.out, HV.out, e]
          exact (hS.bel bU).keep (Nat.le_succ _)
        have hy2 : Maps.has D1 (.string y2) = true := hy1.trans (decide_eq_true hm)
        clear hS hD1 hy1 hm hk HV
        rcases e2 with e2 | ⟨e2, e3⟩
        all_goals
          gi_wp2_with (gi_at_lookup; refine wpListIn_lookup_own_unit _ rfl _ _ 71 rfl 9 75 law8s Try.underlying71 (zero8u' _) (w.heap.size + 1) pre.length D1 rfl hown1 _ _ rfl ki ?_; rw [hy2])
          exact HF.out
      · have hy2 : Maps.has D1 (.string y2) = false := hy1.trans (decide_eq_false hm)
        have HE : Hid (kyS K (y0, y1, y2, y3) = K ++ [y2]) := by show _ = _; unfold kyS; rw [if_pos hk, if_neg hm]
        have hSU := hS.bel bU
        have xU := hblk.below bU
        have c3U := hSU.bb.cell
        have q2U := xU.cell 2 _ rfl
        obtain ⟨DU, hownU, hDU⟩ := hSU.bm
        clear hy1 hm hk
        rcases e2 with e2 | ⟨e2, e3⟩
        all_goals
          gi_wp2_with (first
            | (gi_at_lookup; refine wpListIn_lookup_own_unit _ rfl _ _ 71 rfl 9 75 law8s Try.underlying71 (zero8u' _) (w.heap.size + 1) pre.length D1 rfl hown1 _ _ rfl ki ?_; rw [hy2])
            | (gi_at_mapUpdate; refine wpListIn_mapUpdate_own _ rfl _ _ _ 71 rfl 9 75 law8s Try.underlying71 _ (w.heap.size + 1) pre.length DU rfl hownU (by unfold maxLen; omega) _ _ _ rfl rfl ki _ [] unitElem_mk ?_; intro W1 hown2 hg2; refine Hid.out ?_))
          have hS1 := hSU.map hg2 (TSet.put hDU hownU.isMap y2 hown2)
          have z1 := hg2.size
          rw [World.size_alloc] at z1
          have x1 : SBox W1 Bx 48 #[.int .i64 y0, .int .i64 y1, .string ⟨y2.toArray⟩, .string ⟨y3.toArray⟩] := (hg2.block Bx xU.lt (fun e => by have := Option.some.inj e; omega)).trans xU
          have KK1 : KeepsFrom W0.heap.size W W1 := by
            have hw0 := HW0.out
            exact ((KeepsOthers.alloc W (.cells #[] 75)).from _).trans (KeepsFrom.of_grownBy hg2 (fun j e => by cases e; omega))
          have KP1 : KpE w.heap.size (w.heap.size + 1 + 1 + 1) W W1 := kpE_t (kpE_bel8 (by omega) (by omega) bU) (kpE_grown8 (by simp; omega) (by simp; omega) hg2 (fun r e => by cases e; omega))
          have cv := hS1.bv.cell
          have gv := hS1.bv.frozen
          have d2 := x1.cell 2 _ rfl
          have hrow := hS1.row
          refine Lib.hid ?_
          gi_wp2_with (gi_at_builtin; refine wpListIn_append_own_at _ rfl _ _ 53 rfl w.heap.size 9 i0 (.string ByteArray.empty) 1 16 Try.underlying53 hi hz0 hz1 hz2 rfl (by decide) _ _ _ rfl (hrow.alloc _) ⟨W1.heap.size, 0, none⟩ 1 1 [.string ⟨y2.toArray⟩] rfl rfl ?a1 ?a2 ?a3 ?a4 ?a5 ?_)
          case a1 => intro j u hj; match j, hj with
            | 0, hj => simp at hj; subst hj; simp [Addr.add]
          case a2 => intro u hu; simp at hu; subst hu; rfl
          case a3 => unfold maxLen; omega
          case a4 => omega
          case a5 => simp; omega
          intro v' W2 hown2' hg2' _ hat2
          obtain ⟨g', cap', rfl⟩ := ownsRow_succ hown2'
          have hS2 := hS1.app (K' := K ++ [y2]) (by rw [strV_one, List.length_append]; exact hown2') hg2' hat2
          have bv2 := (hS1.bv.alloc (.cells #[.string ⟨y2.toArray⟩] 9)).kept hg2' (fun e => by have := hS1.far _ e.symm; omega)
          have cv2 := bv2.cell
          have gv2 := bv2.frozen
          have z2 := hg2'.size
          rw [World.size_alloc] at z2
          have KK2 := (KK1.trans ((KeepsOthers.alloc W1 (.cells #[.string ⟨y2.toArray⟩] 9)).from _)).trans ((keeps_row (hrow.alloc (.cells #[.string ⟨y2.toArray⟩] 9)) hg2').from _)
          have KP2 := kpE_t (kpE_t KP1 (kpE_bel8 (by omega) (by omega) ((Below.refl W1.heap.size W1).alloc (Nat.le_refl _) (.cells #[.string ⟨y2.toArray⟩] 9)))) (kpE_grown8 (by simp; omega) (by simp; omega) hg2' (fun r e => by have := hS1.far r e; omega))
          have HF : Hid (KeepsFrom W0.heap.size W (W2.setCell ⟨w.heap.size, 0, none⟩ (.slice (some ⟨g', 0, none⟩) (K.length + 1) cap')) ∧ KpE w.heap.size (w.heap.size + 1 + 1 + 1) W (W2.setCell ⟨w.heap.size, 0, none⟩ (.slice (some ⟨g', 0, none⟩) (K.length + 1) cap')) ∧ QInv w (.slice a h.length cap) h (pre ++ [x]) (W2.setCell ⟨w.heap.size, 0, none⟩ (.slice (some ⟨g', 0, none⟩) (K.length + 1) cap'))) := by
            refine ⟨KK2.trans ((KeepsOthers.setCell _ _ _).from _), kpE_t KP2 (kpE_grown8 (by omega) (by omega) (grownBy_setCell' _ _ _) (fun r e => by cases e; omega)), .slice (some ⟨g', 0, none⟩) (K.length + 1) cap', ?_⟩
            have e : (fun t => decide (t ∈ K ++ [y2])) = fun u => (decide (u ∈ K) || decide (y2 = u)) := by
              funext u
              rw [Bool.eq_iff_iff, Bool.or_eq_true, decide_eq_true_eq, decide_eq_true_eq, decide_eq_true_eq, List.mem_append, List.mem_singleton]
              exact ⟨fun hh => hh.imp id Eq.symm, fun hh => hh.imp id Eq.symm⟩
            rw [LX.out, HV.out, HE.out, e]
            exact hS2
          clear hS hS1 hS2 hown1 hown2 hown2' KK1 KP1 KK2 KP2 HV HE x1 hrow hat2 hD1 hDU hownU
          gi_wp2
          exact HF.out
    · have e2 : (y0 != 2) = true := by rw [bne_iff_ne]; exact fun e => hk (Or.inl e)
      have e3 : (y0 != 3) = true := by rw [bne_iff_ne]; exact fun e => hk (Or.inr e)
      have HF : Hid (KeepsFrom W0.heap.size W W ∧ KpE w.heap.size (w.heap.size + 1 + 1 + 1) W W ∧ QInv w (.slice a h.length cap) h (pre ++ [x]) W) := by
        refine ⟨KeepsFrom.refl _ _, ⟨Below.refl _ _, rfl⟩, v, ?_⟩
        have e : kyS K (y0, y1, y2, y3) = K := by unfold kyS; rw [if_neg hk]
        rw [LX.out, HV.out, e]
        exact hS.keep (Nat.le_succ _)
      clear hS hD1 hy1 hk HV
      gi_wp2
      exact HF.out
  case done =>
    rintro D ys W hD rfl ⟨v, hS⟩ hK
    have HE : Hid (((kyF h (List.finRange h.length)).mergeSort fun x y => decide (x ≤ y)) = keysL h) := ky_sorted h
    have c1 := hS.bv.cell
    have HD : Hid (w.heap.size + 1 + 1 + 1 + 1 ≤ D) := by rw [sW0] at hD; exact hD
    have lenL := kyF_len h (List.finRange h.length)
    rw [List.length_finRange] at lenL
    obtain ⟨K, hs⟩ : ∃ K, kyF h (List.finRange h.length) = K := ⟨_, rfl⟩
    rw [hs] at hS HE lenL
    clear sW0 hS0 hD hs
    rcases hS.row.2 with ⟨rfl, h0⟩ | ⟨g, cp, cur, rfl, hbase, hb, k1, k2, k3, k4⟩
    · have hk0 : K = [] := List.length_eq_zero_iff.1 h0
      gi_wp2_with ((try refine ⟨trivial, ?_⟩); gi_at_call 48; refine (callsIn_wide.2 (psort_none none 0 W)).mono ?_; rintro e W1 ⟨rfl, rfl⟩)
      refine ⟨by simp, .inl ⟨_, _, rfl, run_takeDeferred hK, ?_⟩⟩
      refine ⟨_, results_tmp rfl _ _ _, _, rfl, hS.below.trans (belowK_b (w := w) (Nat.le_refl _) _ D _ _ (by have := HD.out; omega) hK rfl rfl), ?_⟩
      have e : keysL h = [] := by rw [← HE.out, hk0]; simp
      rw [e]
      exact World.ownsRow_nil _ _ _ _
    · have hH := holds_of_block (ss := K) hb (by simpa [strV] using k4)
      have hfar := hS.far g rfl
      have hTS := fun n os => ownsRow_sorted (w := W) (n := n) (os := os) (ts := K.mergeSort fun x y => decide (x ≤ y)) (ss := K) (by simp) hbase hb k1 k2 k3
      have C : Calls Try.prog 48 #[.slice (some ⟨g, 0, none⟩) K.length cp] W fun e W1 => e = .returned (.tuple #[]) ∧ W.grownBy W1 (some g) ∧ W1.ownsRow w.heap.size 9 1 (.slice (some ⟨g, 0, none⟩) K.length cp) K.length ((K.mergeSort fun x y => decide (x ≤ y)).map encStr) :=
        (psort_any g 0 cp K W hH (Array.getElem?_eq_some_iff.1 hb).1 (by omega)).mono (fun e w' ⟨r1, nn, os, r2⟩ => ⟨r1, by rw [r2]; exact grownBy_sorted _, by rw [r2]; exact hTS nn os⟩)
      gi_wp2_with ((try refine ⟨trivial, ?_⟩); gi_at_call 48; refine (callsIn_wide.2 C).mono ?_; clear C; rintro e W1 ⟨rfl, hg, hT1⟩; refine Hid.out ?_)
      have b1 := hS.bv.kept hg (fun e => by have := Option.some.inj e; omega)
      have d1 := b1.cell
      have hK1 : W1.heap[D]? = some (.deferred (some [])) := (hg.block D (Array.getElem?_eq_some_iff.1 hK).1 (fun e => by cases e; rw [hb] at hK; cases hK)).trans hK
      have hB1 : Below w.heap.size w W1 := hS.below.grown hg (by have := hS.size; omega) (fun r e => by cases e; omega)
      rw [HE.out] at hT1
      have hLen : (keysL h).length = K.length := by rw [← HE.out]; simp
      have HLen : Hid ((keysL h).length = K.length) := hLen
      clear hg hTS hLen hS hb hH c1
      refine Lib.hid ?_
      gi_wp2
      refine ⟨by simp, .inl ⟨_, _, rfl, run_takeDeferred hK1, ?_⟩⟩
      refine ⟨_, results_tmp rfl _ _ _, _, rfl, hB1.trans (belowK_b (w := w) (Nat.le_refl _) _ D _ _ (by have := HD.out; omega) hK1 rfl rfl), ?_⟩
      rw [HLen.out]
      exact ownsRow_putObj hT1 _ hK1 rfl
  case stop =>
    rintro D c pre W hD hSp h hK
    exact h.elim
end Go.Proofs.Yteehpkkkagdckaa
