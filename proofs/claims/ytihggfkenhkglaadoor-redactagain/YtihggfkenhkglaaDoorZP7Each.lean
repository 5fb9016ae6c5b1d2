/-
  What redact.each and redact.All answer.
-/
import Derived.Test.YtihggfkenhkglaaDoorZP7One
import Derived.Test.YtihggfkenhkglaaDoorGQ
import Derived.Test.YtihggfkenhkglaaDoorGH
import Derived.Lib.Hide
namespace Go.Proofs.YtihggfkenhkglaaDoor
set_option maxRecDepth 100000
open Go.RowKit Go.Shelf
set_option linter.unusedVariables false
attribute [local go_sem] Oper.semAt_some ba_size
/-- What the loop of each keeps: boxes, and the row that is filled. -/
structure ESt (N g M : Nat) (w : World) (s : List UInt8) (n : Nat) (sl : Value) (L : List Ev) (W : World) : Prop where
  below : Below N w W
  size : M + 2 ≤ W.heap.size
  bs : Boxed W N 9 (.string ⟨s.toArray⟩)
  r1 : Boxed W (N + 1) 37 (.slice none 0 0)
  r2 : Boxed W (N + 1 + 1) 27 (.int .i64 0)
  bt : Boxed W M 37 (.slice (some ⟨g, 0, none⟩) n n)
  be : Boxed W (M + 1) 37 sl
  row : W.ownsRow N 23 4 (.slice (some ⟨g, 0, none⟩) n n) n (recV evV L)
  len : L.length = n
theorem ESt.bel {N g M : Nat} {w : World} {s : List UInt8} {n : Nat} {sl : Value} {L : List Ev} {W W' : World} (h : ESt N g M w s n sl L W) (hN : N + 3 ≤ M) (hg : g < M) (hb : Below (M + 2) W W') : ESt N g M w s n sl L W' :=
  ⟨h.below.trans (hb.mono (by omega)), Nat.le_trans h.size hb.size, boxed_bel h.bs hb (by omega), boxed_bel h.r1 hb (by omega), boxed_bel h.r2 hb (by omega), boxed_bel h.bt hb (by omega), boxed_bel h.be hb (by omega), owns_bel h.row hb (by omega), h.len⟩
theorem ESt.put {N g M : Nat} {w : World} {s : List UInt8} {n : Nat} {sl : Value} {L : List Ev} {W : World} (h : ESt N g M w s n sl L W) (hN : g = N + 1 + 1 + 1) (hg : g < M) (i : Nat) (hi : i < n) (x : Ev) : ESt N g M w s n sl (L.set i x) (putE W g i x) :=
  ⟨putE_below h.below g i x (by omega), by rw [putE_size]; exact h.size, (putE_other W g i x _ (by omega)).trans h.bs, (putE_other W g i x _ (by omega)).trans h.r1, (putE_other W g i x _ (by omega)).trans h.r2, (putE_other W g i x _ (by omega)).trans h.bt, (putE_other W g i x _ (by omega)).trans h.be, putE_row h.row (by rw [h.len]; exact hi) x, by rw [List.length_set]; exact h.len⟩
theorem tags_set (kd : List UInt8 → List UInt8) (h : List Ev) (k : Nat) (hk : k < h.length) (z : Ev) : (tagsL kd (h.take k) ++ List.replicate (h.length - k) z).set k (tagE kd h[k]) = tagsL kd (h.take (k + 1)) ++ List.replicate (h.length - (k + 1)) z := by
  have hl : (tagsL kd (h.take k)).length = k := by rw [tags_len, List.length_take]; omega
  rw [List.set_append_right _ _ (by omega), hl, Nat.sub_self, show h.length - k = (h.length - (k + 1)) + 1 by omega, List.replicate_succ, List.set_cons_zero, tagsL_next kd h k hk, List.append_assoc]
  rfl
theorem results_cell2 {fn : Func} {P : Program} {p q : Tmp} {t1 t2 : TypeId} (h : fn.results = #[.cell p t1, .cell q t2]) (tmps : Array Value) (w : World) (v : Value)
    (hv : ((asAddr (tmps.getD p undef)).run P w).andThen (fun a w₁ => ((loadVar t1 a).run P w₁).andThen fun x w₂ => ((asAddr (tmps.getD q undef)).run P w₂).andThen fun b w₃ => ((loadVar t2 b).run P w₃).andThen fun y w₄ => Result.ok (.tuple #[x, y]) w₄) = Result.ok v w) :
    (results fn tmps).run P w = .ok v w := by
  rw [← hv]
  simp only [results, h]
  simp [Sem.run_bind, Result.andThen]
def EInv (N g M : Nat) (w : World) (s : List UInt8) (h : List Ev) (sl : Value) (pre : List (Fin h.length)) (W : World) : Prop :=
  ∃ L, ESt N g M w s h.length sl L W ∧ (pre <+: List.finRange h.length → (allMay (h.take pre.length) ∧ (mayK s ∨ pre.length = 0)) ∧ L = tagsL (keyL s) (h.take pre.length) ++ List.replicate (h.length - pre.length) EvZ)
def EOut (N M : Nat) (w : World) (s : List UInt8) (h : List Ev) (c : Code) (pre : List (Fin h.length)) (W : World) : Prop :=
  c = .ret ∧ M + 2 ≤ W.heap.size ∧ Below N w W ∧ Boxed W (N + 1) 37 (.slice none 0 0) ∧ Boxed W (N + 1 + 1) 27 (.int .i64 1) ∧ (pre <+: List.finRange h.length → ∃ (k : Nat) (hk : k < h.length), ¬ (mayE h[k] ∧ mayK s))
set_option maxHeartbeats 2000000 in
theorem peach_any (s : List UInt8) (h : List Ev) (v : Value) (w : World) (hG : G w) (hT : IsEvs w v h) (hn : h.length ≤ 256) :
    Calls Tryd.prog 31 #[.string ⟨s.toArray⟩, v] w fun e w' => EvRes 23 w (allP s h) e w' := by
  obtain ⟨i0, hi, hz0, hz1, hz2⟩ := info_parts ev_info7
  have hT0 := hT
  obtain ⟨a, cap, rfl, h1, h2, h3, HC⟩ := hT.some_at
  clear HC hT
  have hg3 := hG.size
  refine (callsIn_wide (n := 3)).1 ?_
  refine callsIn_of_wp_marks Tryd.func31 rfl trivial ?_ rfl
  simp only [Tryd.ntmps31, List.size_toArray, List.length_cons, List.length_nil, Nat.reduceAdd, Nat.reduceSub, Array.replicate_succ, Array.replicate_zero, List.push_toArray, List.append_toArray, List.nil_append, List.cons_append]
  gi_wp2_with (first
    | (gi_at_make; refine wpListIn_make_full7 _ rfl _ _ 37 rfl w.heap.size 23 i0 (.agg #[.int .i64 0, .int .i64 0, .string ByteArray.empty, .string ByteArray.empty]) 4 Tryd.underlying37 hi hz0 hz1 .i64 .i64 _ _ h.length rfl rfl rfl rfl (by rw [hz2]; omega) (by unfold maxLen; omega) (by simp; omega) ?_; intro w1 hown1 hgr1; refine Hid.out ?_)
    | ((try refine ⟨trivial, ?_⟩); gi_at_call 33; refine (callsIn_wide.2 (pevents_any _ _ _ _)).mono ?_; rintro e w2 ⟨rfl, rfl⟩))
  have hg0 : (((w.alloc (.cells #[.string ⟨s.toArray⟩] 9)).alloc (.cells #[.slice none 0 0] 37)).alloc (.cells #[.int .i64 0] 27)).heap.size = w.heap.size + 1 + 1 + 1 := by simp
  rw [hg0] at hown1
  have hrow1 : w1.ownsRow w.heap.size 23 4 (.slice (some ⟨w.heap.size + 1 + 1 + 1, 0, none⟩) h.length h.length) h.length (recV evV (List.replicate h.length EvZ)) := by
    have e := made_evs7 h.length
    have hown1' : w1.ownsRow w.heap.size 23 4 (.slice (some ⟨w.heap.size + 1 + 1 + 1, 0, none⟩) h.length h.length) h.length (madeCells #[.int .i64 0, .int .i64 0, .string ByteArray.empty, .string ByteArray.empty] (h.length * 4)).toList := hown1
    rw [e] at hown1'
    exact hown1'
  clear hown1
  have hB1 : Below w.heap.size w w1 := ((((Below.refl _ w).alloc (Nat.le_refl _) _).alloc (by simp) _).alloc (by simp; omega) _).grown hgr1 (by simp; omega) (fun k e => by cases e)
  have bs1 : Boxed w1 w.heap.size 9 (.string ⟨s.toArray⟩) := (((Boxed.new w 9 (.string ⟨s.toArray⟩)).alloc _).alloc _).kept hgr1 (by simp)
  have r11 : Boxed w1 (w.heap.size + 1) 37 (.slice none 0 0) := by
    have := ((Boxed.new (w.alloc (.cells #[.string ⟨s.toArray⟩] 9)) 37 (.slice none 0 0)).alloc (.cells #[.int .i64 0] 27)).kept hgr1 (by simp)
    rwa [World.size_alloc] at this
  have r21 : Boxed w1 (w.heap.size + 1 + 1) 27 (.int .i64 0) := by
    have := (Boxed.new ((w.alloc (.cells #[.string ⟨s.toArray⟩] 9)).alloc (.cells #[.slice none 0 0] 37)) 27 (.int .i64 0)).kept hgr1 (by simp)
    rwa [World.size_alloc, World.size_alloc] at this
  have gM : w.heap.size + 1 + 1 + 1 < w1.heap.size := (hrow1.lt _ rfl).2
  clear hgr1 hg0
  have hS0 : ESt w.heap.size (w.heap.size + 1 + 1 + 1) w1.heap.size w s h.length (.slice a h.length cap) (List.replicate h.length EvZ) ((w1.alloc (.cells #[.slice (some ⟨w.heap.size + 1 + 1 + 1, 0, none⟩) h.length h.length] 37)).alloc (.cells #[.slice a h.length cap] 37)) := by
    refine ⟨(hB1.alloc (by omega) _).alloc (by simp; omega) _, by simp, (bs1.alloc _).alloc _, (r11.alloc _).alloc _, (r21.alloc _).alloc _, (Boxed.new w1 37 _).alloc _, ?_, (hrow1.alloc _).alloc _, by simp⟩
    have := Boxed.new (w1.alloc (.cells #[.slice (some ⟨w.heap.size + 1 + 1 + 1, 0, none⟩) h.length h.length] 37)) 37 (.slice a h.length cap)
    rwa [World.size_alloc] at this
  refine Lib.hid ?_
  gi_wp2_with ((try refine ⟨trivial, ?_⟩); gi_at_call 33; refine (callsIn_wide.2 (pevents_any _ _ _ _)).mono ?_; rintro e w2 ⟨rfl, rfl⟩)
  obtain ⟨W0, hW0⟩ : ∃ W0, (w1.alloc (.cells #[.slice (some ⟨w.heap.size + 1 + 1 + 1, 0, none⟩) h.length h.length] 37)).alloc (.cells #[.slice a h.length cap] 37) = W0 := ⟨_, rfl⟩
  rw [hW0] at hS0 ⊢
  have sW0 : W0.heap.size = w1.heap.size + 2 := by rw [← hW0]; simp
  clear hW0 hrow1 hB1 bs1 r11 r21
  generalize w1.heap.size = M at hS0 gM sW0 ⊢
  refine wpIn_rangeFunc_ownH rfl (by omega) (gf := 46) (lb := #[.pointer (some ⟨M + 1, 0, none⟩)]) rfl trivial (enters_of Tryd.func46 (by kernel_rfl) rfl)
    (events_stops h w a cap hT0 (M + 1) (3 - 1) W0 hS0.below hS0.be) (fun h k => kpE_t h k) (kpE_b (by omega) (by omega)) (Below.refl _ _) (fun _ => rfl)
    (EInv w.heap.size (w.heap.size + 1 + 1 + 1) M w s h (.slice a h.length cap)) (EOut w.heap.size M w s h)
    (ownFrom_of_below (fun _ W ⟨L, h1, _⟩ => by rw [sW0]; exact h1.size) (fun _ W W' ⟨L, h1, h2⟩ hb => ⟨L, h1.bel (by omega) gM (by rw [sW0] at hb; exact hb), h2⟩))
    (fun c => ownFrom_of_below (fun _ W ⟨h1, h2, h3⟩ => by rw [sW0]; exact h2) (fun _ W W' ⟨h1, h2, h3, h4, h5, h6⟩ hb => by
      rw [sW0] at hb
      exact ⟨h1, Nat.le_trans h2 hb.size, h3.trans (hb.mono (by omega)), boxed_bel h4 hb (by omega), boxed_bel h5 hb (by omega), h6⟩))
    ⟨_, hS0, fun _ => ⟨⟨fun x hx => by simp at hx, Or.inr rfl⟩, by simp [tagsL]⟩⟩
    (fun x a' W => ∃ Bx, M + 1 < Bx ∧ SBox W Bx 23 #[.int .i64 h[x.val].1, .int .i64 h[x.val].2.1, .string ⟨h[x.val].2.2.1.toArray⟩, .string ⟨h[x.val].2.2.2.toArray⟩] ∧ a' = { tmps := #[.string ⟨s.toArray⟩, .slice a h.length cap, .pointer (some ⟨w.heap.size, 0, none⟩), undef, .pointer (some ⟨w.heap.size + 1, 0, none⟩), .pointer (some ⟨w.heap.size + 1 + 1, 0, none⟩), .pointer (some ⟨M, 0, none⟩), .int .i64 (x.val : Int), .pointer (some ⟨Bx, 0, none⟩), undef, undef, .slice a h.length cap, .int .i64 h.length, .slice (some ⟨w.heap.size + 1 + 1 + 1, 0, none⟩) h.length h.length, .slice a h.length cap, eventsF (M + 1), .int .i64 (x.val : Int), evW h[x.val], undef, undef, undef, undef, undef, undef, undef, undef, undef, undef, undef, undef, undef, undef], defers := [] })
    (fun x a' _ A B row hs hg hr => by
      obtain ⟨Bx, h1, h2, h4⟩ := hs
      exact ⟨Bx, h1, block_kept h2 hg (fun r e => (hr r e).2), h4⟩)
    ?assign ?body ?done ?stop
  case assign =>
    rintro l pre x W K ⟨L, hS, hp⟩ hK
    have hsz := hS.size
    gi_wp2
    refine hK _ _ ((KeepsOthers.alloc _ _).from _) ⟨(Below.refl _ W).alloc (by omega) _, Below.heap_alloc W _ _ (by omega)⟩ ⟨L, hS.bel (by omega) gM ((Below.refl _ W).alloc hsz _), hp⟩ ⟨W.heap.size, by omega, SBox.new W _ _, rfl⟩
  case body =>
    rintro l pre x a' W hl hrec ⟨L, hS, hp⟩ ⟨Bx, hBx, hblk, rfl⟩ hlt
    have HW0 : Hid (W0.heap.size = M + 2) := sW0
    clear sW0 hS0 hl hrec
    have hsz := hS.size
    have hxn := x.isLt
    have hGW : G W := hG.below hS.below hg3
    obtain ⟨⟨y0, y1, y2, y3⟩, hy⟩ : ∃ y, h[x.val] = y := ⟨_, rfl⟩
    have HY : Hid (h[x.val] = (y0, y1, y2, y3)) := hy
    rw [hy] at hblk ⊢
    simp only at hblk
    clear hy
    have c0 := hS.bs.cell
    have q0 := hblk.cell 0 _ rfl
    have q1 := hblk.cell 1 _ rfl
    have q2 := hblk.cell 2 _ rfl
    have q3 := hblk.cell 3 _ rfl
    have C := pone_any s y0 y1 y2 y3 W hGW
    obtain ⟨i, hxi⟩ : ∃ i, x.val = i := ⟨_, rfl⟩
    have HI : Hid (x.val = i) := hxi
    rw [hxi] at hxn ⊢
    clear hxi
    by_cases hm : mayE (y0, y1, y2, y3) ∧ mayK s
    · rw [oneP_ok s _ hm.1 hm.2] at C
      have HM : Hid (mayE (y0, y1, y2, y3) ∧ mayK s) := hm
      obtain ⟨⟨z0, z1, z2, z3⟩, hz⟩ : ∃ z, tagE (keyL s) (y0, y1, y2, y3) = z := ⟨_, rfl⟩
      have HZ : Hid (tagE (keyL s) (y0, y1, y2, y3) = (z0, z1, z2, z3)) := hz
      rw [hz] at C
      simp only at C
      clear hz hm
      gi_wp2_with ((try refine ⟨trivial, ?_⟩); gi_at_call 15; refine (CallsIn.inRound l (callsIn_wide.2 C)).mono ?_; clear C; rintro e W1 ⟨rfl, b1⟩; refine Hid.out ?_)
      have s1 := b1.size
      have hB2 : Below (M + 2) W (W1.alloc (.cells #[.int .i64 z0, .int .i64 z1, .string ⟨z2.toArray⟩, .string ⟨z3.toArray⟩] 23)) := (b1.mono hsz).alloc (by omega) _
      have hS2 := hS.bel (by omega) gM hB2
      have K2 : KeepsOthers W (W1.alloc (.cells #[.int .i64 z0, .int .i64 z1, .string ⟨z2.toArray⟩, .string ⟨z3.toArray⟩] 23)) := (keeps_of_below b1).trans (KeepsOthers.alloc _ _)
      have c6 := hS2.bt.cell
      obtain ⟨u, ⟨f0, f1, f2, f3⟩, g0, g1, g2, g3⟩ := row_cells hS2.row hS2.len hxn
      have HF : Hid (KeepsFrom W0.heap.size W (putE (W1.alloc (.cells #[.int .i64 z0, .int .i64 z1, .string ⟨z2.toArray⟩, .string ⟨z3.toArray⟩] 23)) (w.heap.size + 1 + 1 + 1) i (z0, z1, z2, z3)) ∧ KpE w.heap.size (M + 1) W (putE (W1.alloc (.cells #[.int .i64 z0, .int .i64 z1, .string ⟨z2.toArray⟩, .string ⟨z3.toArray⟩] 23)) (w.heap.size + 1 + 1 + 1) i (z0, z1, z2, z3)) ∧ EInv w.heap.size (w.heap.size + 1 + 1 + 1) M w s h (.slice a h.length cap) (pre ++ [x]) (putE (W1.alloc (.cells #[.int .i64 z0, .int .i64 z1, .string ⟨z2.toArray⟩, .string ⟨z3.toArray⟩] 23)) (w.heap.size + 1 + 1 + 1) i (z0, z1, z2, z3))) := by
        refine ⟨(K2.trans (putE_keeps _ _ _ _)).from _, ⟨putE_below (hB2.mono (by omega)) _ _ _ (by omega), ?_⟩, L.set i (z0, z1, z2, z3), hS2.put rfl gM i hxn _, fun hpre => ?_⟩
        · rw [putE_other _ _ _ _ _ (by omega)]; exact hB2.block _ (by omega)
        · obtain ⟨hp1, hp2, hp3⟩ := fin_prefix hpre
          obtain ⟨⟨ha, hk⟩, hL⟩ := hp hp1
          have ei : i = pre.length := HI.out.symm.trans hp2
          have ek : h[pre.length] = (y0, y1, y2, y3) := by
            have := HY.out
            simp only [hp2] at this
            exact this
          rw [List.length_append, List.length_singleton]
          refine ⟨⟨allMay_next h pre.length hp3 ha (by rw [ek]; exact HM.out.1), Or.inl HM.out.2⟩, ?_⟩
          rw [hL, ei, ← HZ.out, ← ek]
          exact tags_set (keyL s) h pre.length hp3 EvZ
      clear hS hS2 K2 hp HZ HM HY HI
      refine Lib.hid ?_
      gi_wp2
      exact HF.out
    · rw [oneP_no s _ hm] at C
      simp only at C
      have HM : Hid (¬ (mayE h[x.val] ∧ mayK s)) := by show ¬ _; rw [HY.out]; exact hm
      clear hm
      gi_wp2_with ((try refine ⟨trivial, ?_⟩); gi_at_call 15; refine (CallsIn.inRound l (callsIn_wide.2 C)).mono ?_; clear C; rintro e W1 ⟨rfl, b1⟩; refine Hid.out ?_)
      have s1 := b1.size
      have hB2 : Below (M + 2) W (W1.alloc (.cells #[.int .i64 0, .int .i64 0, .string ⟨#[]⟩, .string ⟨#[]⟩] 23)) := (b1.mono hsz).alloc (by omega) _
      have hS2 := hS.bel (by omega) gM hB2
      have K2 : KeepsOthers W (W1.alloc (.cells #[.int .i64 0, .int .i64 0, .string ⟨#[]⟩, .string ⟨#[]⟩] 23)) := (keeps_of_below b1).trans (KeepsOthers.alloc _ _)
      have f1 := hS2.r1.cell
      have g1 := hS2.r1.frozen
      have f2 := hS2.r2.cell
      have g2 := hS2.r2.frozen
      have HF : Hid (KeepsFrom W0.heap.size W (((W1.alloc (.cells #[.int .i64 0, .int .i64 0, .string ⟨#[]⟩, .string ⟨#[]⟩] 23)).setCell ⟨w.heap.size + 1, 0, none⟩ (.slice none 0 0)).setCell ⟨w.heap.size + 1 + 1, 0, none⟩ (.int .i64 1)) ∧ EOut w.heap.size M w s h .ret (pre ++ [x]) (((W1.alloc (.cells #[.int .i64 0, .int .i64 0, .string ⟨#[]⟩, .string ⟨#[]⟩] 23)).setCell ⟨w.heap.size + 1, 0, none⟩ (.slice none 0 0)).setCell ⟨w.heap.size + 1 + 1, 0, none⟩ (.int .i64 1))) := by
        refine ⟨((K2.trans (KeepsOthers.setCell _ _ _)).trans (KeepsOthers.setCell _ _ _)).from _, rfl, by simp; omega, (hS2.below.setCell (p := ⟨w.heap.size + 1, 0, none⟩) (by simp) _).setCell (p := ⟨w.heap.size + 1 + 1, 0, none⟩) (by simp; omega) _, (hS2.r1.set _).other (by omega) _, (hS2.r2.other (by omega) _).set _, fun _ => ⟨x.val, x.isLt, HM.out⟩⟩
      clear hS hS2 K2 hp HY HI
      refine Lib.hid ?_
      gi_wp2
      exact HF.out
  case done =>
    rintro D ys W hD rfl ⟨L, hS, hp⟩ hK
    obtain ⟨⟨ha, hk⟩, hL⟩ := hp (List.prefix_refl _)
    rw [List.length_finRange] at ha hk hL
    rw [List.take_of_length_le (Nat.le_refl _)] at ha hL
    rw [Nat.sub_self, List.replicate_zero, List.append_nil] at hL
    have HE : Hid (allP s h = (tagsL (keyL s) h, 0)) := allP_ok s h (by omega) ha (hk.imp id (fun e => List.length_eq_zero_iff.1 e))
    have hrow := hS.row
    rw [hL] at hrow
    have HT : Hid ((tagsL (keyL s) h).length = h.length) := tags_len _ _
    have c6 := hS.bt.cell
    have f1 := hS.r1.cell
    have g1 := hS.r1.frozen
    have f2 := hS.r2.cell
    have g2 := hS.r2.frozen
    have hsz := hS.size
    have HD : Hid (M + 2 ≤ D) := by rw [sW0] at hD; exact hD
    clear sW0 hS0 hD hp ha hk hL
    gi_wp2
    have hK' := ((KeepsOthers.setCell W ⟨w.heap.size + 1, 0, none⟩ (.slice (some ⟨w.heap.size + 1 + 1 + 1, 0, none⟩) h.length h.length)).trans (KeepsOthers.setCell _ ⟨w.heap.size + 1 + 1, 0, none⟩ (.int .i64 0))).same D _ hK rfl
    have B1 := (hS.below.setCell (p := ⟨w.heap.size + 1, 0, none⟩) (by simp) (.slice (some ⟨w.heap.size + 1 + 1 + 1, 0, none⟩) h.length h.length)).setCell (p := ⟨w.heap.size + 1 + 1, 0, none⟩) (by simp; omega) (.int .i64 0)
    have R1 := (hS.r1.set (.slice (some ⟨w.heap.size + 1 + 1 + 1, 0, none⟩) h.length h.length)).other (B' := w.heap.size + 1 + 1) (by omega) (.int .i64 0)
    have R2 := (hS.r2.other (B' := w.heap.size + 1) (by omega) (.slice (some ⟨w.heap.size + 1 + 1 + 1, 0, none⟩) h.length h.length)).set (.int .i64 0)
    have O1 := owns_keep7 (g := w.heap.size + 1 + 1) (j := 0) (owns_keep7 (g := w.heap.size + 1) (j := 0) hrow (.slice (some ⟨w.heap.size + 1 + 1 + 1, 0, none⟩) h.length h.length) (by simp [Value.ownBlock])) (.int .i64 0) (by simp [Value.ownBlock])
    refine ⟨by simp, .inl ⟨_, _, rfl, run_takeDeferred hK', ?_⟩⟩
    have d1 := cell_kept R1.cell (grownBy_putObj' _ D (.deferred none)) (fun r e => by cases e; exact ⟨_, hK', rfl⟩)
    have d2 := cell_kept R2.cell (grownBy_putObj' _ D (.deferred none)) (fun r e => by cases e; exact ⟨_, hK', rfl⟩)
    refine ⟨.tuple #[.slice (some ⟨w.heap.size + 1 + 1 + 1, 0, none⟩) h.length h.length, .int .i64 0], ?_, _, by rw [HE.out]; rfl, B1.trans (belowK_b (w := w) (Nat.le_refl _) _ D _ _ (by have := HD.out; omega) hK' rfl rfl), ?_⟩
    · refine results_cell2 rfl _ _ _ ?_
      simp [go_sem, d1, d2]
    · rw [HE.out]
      show World.ownsRow _ _ _ _ _ (tagsL (keyL s) h).length _
      rw [HT.out]
      exact ownsRow_putObj O1 _ hK' rfl
  case stop =>
    rintro D c pre W hD hSp ⟨rfl, hs, hb, hr1, hr2, hbad⟩ hK
    obtain ⟨k, hk, hm⟩ := hbad hSp
    have HE : Hid (allP s h = ([], 1)) := allP_bad s h (by omega) k hk hm
    have HD : Hid (M + 2 ≤ D) := by rw [sW0] at hD; exact hD
    clear sW0 hS0 hD hm hbad
    gi_wp2
    refine ⟨by simp, .inl ⟨_, _, rfl, run_takeDeferred hK, ?_⟩⟩
    have d1 := cell_kept hr1.cell (grownBy_putObj' _ D (.deferred none)) (fun r e => by cases e; exact ⟨_, hK, rfl⟩)
    have d2 := cell_kept hr2.cell (grownBy_putObj' _ D (.deferred none)) (fun r e => by cases e; exact ⟨_, hK, rfl⟩)
    refine ⟨.tuple #[.slice none 0 0, .int .i64 1], ?_, _, by rw [HE.out]; rfl, hb.trans (belowK_b (w := w) (Nat.le_refl _) _ D _ _ (by have := HD.out; omega) hK rfl rfl), ?_⟩
    · refine results_cell2 rfl _ _ _ ?_
      simp [go_sem, d1, d2]
    · rw [HE.out]
      exact World.ownsRow_nil _ _ _ _
theorem pall7_any (s : List UInt8) (h : List Ev) (v : Value) (w : World) (hG : G w) (hT : IsEvs w v h) :
    Calls Tryd.prog 18 #[.string ⟨s.toArray⟩, v] w fun e w' => EvRes 23 w (allP s h) e w' := by
  have hT0 := hT
  obtain ⟨a, cap, rfl, h1, h2, h3, HC⟩ := hT.some_at
  clear HC hT
  by_cases hbig : 256 < h.length
  · rw [allP_big s h hbig]
    have j : (256 : Int) < (h.length : Int) := by omega
    go_enter Tryd.func18, Tryd.ntmps18
    go_wp2_with fail
    go_ret2
    exact ⟨_, rfl, Below.refl _ _, World.ownsRow_nil _ _ _ _⟩
  · have j : ¬ (256 : Int) < (h.length : Int) := by omega
    have C := peach_any s h _ w hG hT0 (by omega)
    obtain ⟨R, hR⟩ : ∃ R, allP s h = R := ⟨_, rfl⟩
    rw [hR] at C ⊢
    clear hR
    go_enter Tryd.func18, Tryd.ntmps18
    go_wp2_with fail
    refine C.mono ?_
    rintro e w1 ⟨r, rfl, hb1, hown⟩
    go_wp2_with fail
    go_ret2
    exact ⟨r, rfl, hb1, hown⟩
end Go.Proofs.YtihggfkenhkglaaDoor
