/-
  What history.Versions answers.
-/
import Derived.Test.YteehpkkkagdckaaGP
import Derived.Test.YteehpkkkagdckaaGE
namespace Go.Proofs.Yteehpkkkagdckaa
set_option maxRecDepth 100000
open Go.RowKit Go.Shelf Go.Maps
set_option linter.unusedVariables false
attribute [local go_sem] Oper.semAt_some ba_size
def oIf (f : Int → Option Nat) : Int → Option Int := fun t => (f t).map Int.ofNat
theorem oIf_upd (f : Int → Option Nat) (t : Int) (k : Nat) : updI (oIf f) t (k : Int) = oIf (updN f t k) := by
  funext u
  unfold updI oIf updN
  by_cases h : u = t
  · rw [if_pos h, if_pos h]; rfl
  · rw [if_neg h, if_neg h]
theorem versF_few (h : List Ev) (key : List UInt8) : ∀ (pre : List (Fin h.length)) (s : (Int → Option Nat) × List Nat), (pre.foldl (versS h key) s).2.length ≤ s.2.length + pre.length
  | [], s => Nat.le_refl _
  | x :: pre, s => by
    have h1 := versF_few h key pre (versS h key s x)
    have h2 := versF_len h key x s
    rw [List.foldl_cons, List.length_cons]
    omega
theorem versF_le (h : List Ev) (key : List UInt8) (pre : List (Fin h.length)) : (versF h key pre).2.length ≤ pre.length := by have := versF_few h key pre (fun _ => none, []); simpa [versF] using this
theorem recI_snoc (L : List Int) (x : Int) : recV intV (L ++ [x]) = recV intV L ++ [.int .i64 x] := by rw [recV_append]; rfl
def ZInv (w : World) (key : List UInt8) (sl : Value) (h : List Ev) (pre : List (Fin h.length)) (W : World) : Prop :=
  ∃ v, ZSt w 9 (.string ⟨key.toArray⟩) 31 3 1 sl v pre.length (oIf (versF h key pre).1) ((versF h key pre).2.map Int.ofNat).length (recV intV ((versF h key pre).2.map Int.ofNat)) W
set_option maxHeartbeats 4000000 in
theorem pvers8_any (h : List Ev) (v : Value) (w : World) (key : List UInt8) (hT : IsEvs w v h) (hG : ∀ x ∈ h, goodE x) (hn : h.length ≤ 300) :
    Calls Try.prog 49 #[v, .string ⟨key.toArray⟩] w fun e w' => InRow w ((versL h key).map Int.ofNat) e w' := by
  have hT0 := hT
  obtain ⟨a, cap, rfl, h1, h2, h3, HC⟩ := hT.some_at
  clear HC hT
  have hmm := @run_makeMap Try.prog
  obtain ⟨i0, hi, hz0, hz1, hz2⟩ := info_parts int_info
  refine (callsIn_wide (n := 8)).1 ?_
  refine callsIn_of_wp_marks Try.func49 rfl trivial ?_ rfl
  simp only [Try.ntmps49, List.size_toArray, List.length_cons, List.length_nil, Nat.reduceAdd, Nat.reduceSub, Array.replicate_succ, Array.replicate_zero, List.push_toArray, List.append_toArray, List.nil_append, List.cons_append]
  gi_wp2_with ((try refine ⟨trivial, ?_⟩); gi_at_call 55; refine (callsIn_wide.2 (pliving_any _ _ _ _)).mono ?_; rintro e w2 ⟨rfl, rfl⟩)
  have hS0 : ZSt w 9 (.string ⟨key.toArray⟩) 31 3 1 (.slice a h.length cap) (.slice none 0 0) 0 (oIf (fun _ => none)) 0 [] (((((w.alloc (.cells #[.string ⟨key.toArray⟩] 9)).alloc (.cells #[.slice none 0 0] 31)).alloc (.map #[] 0)).alloc (.cells #[.map (some (w.heap.size + 1 + 1))] 81)).alloc (.cells #[.slice a h.length cap] 22)) := by
    have b0 := ((((Boxed.new w 9 (.string ⟨key.toArray⟩)).alloc (.cells #[.slice none 0 0] 31)).alloc (.map #[] 0)).alloc (.cells #[.map (some (w.heap.size + 1 + 1))] 81)).alloc (.cells #[.slice a h.length cap] 22)
    have b1 := (((Boxed.new (w.alloc (.cells #[.string ⟨key.toArray⟩] 9)) 31 (.slice none 0 0)).alloc (.map #[] 0)).alloc (.cells #[.map (some (w.heap.size + 1 + 1))] 81)).alloc (.cells #[.slice a h.length cap] 22)
    have b2 := ((IMap.made ((w.alloc (.cells #[.string ⟨key.toArray⟩] 9)).alloc (.cells #[.slice none 0 0] 31))).kept (World.grownBy_alloc _ (.cells #[.map (some (w.heap.size + 1 + 1))] 81) none) (by simp)).kept (World.grownBy_alloc _ (.cells #[.slice a h.length cap] 22) none) (by simp)
    have b3 := (Boxed.new (((w.alloc (.cells #[.string ⟨key.toArray⟩] 9)).alloc (.cells #[.slice none 0 0] 31)).alloc (.map #[] 0)) 81 (.map (some (w.heap.size + 1 + 1)))).alloc (.cells #[.slice a h.length cap] 22)
    have b4 := Boxed.new ((((w.alloc (.cells #[.string ⟨key.toArray⟩] 9)).alloc (.cells #[.slice none 0 0] 31)).alloc (.map #[] 0)).alloc (.cells #[.map (some (w.heap.size + 1 + 1))] 81)) 22 (.slice a h.length cap)
    simp only [World.size_alloc] at b0 b1 b2 b3 b4
    exact ⟨(((((Below.refl _ w).alloc (Nat.le_refl _) _).alloc (by simp) _).alloc (by simp; omega) _).alloc (by simp; omega) _).alloc (by simp; omega) _, by simp, b0, b1, b2, b3, b4, World.ownsRow_nil _ _ _ _, fun g hg => by simp [Value.ownBlock] at hg⟩
  obtain ⟨W0, hW0⟩ : ∃ W0, (((((w.alloc (.cells #[.string ⟨key.toArray⟩] 9)).alloc (.cells #[.slice none 0 0] 31)).alloc (.map #[] 0)).alloc (.cells #[.map (some (w.heap.size + 1 + 1))] 81)).alloc (.cells #[.slice a h.length cap] 22)) = W0 := ⟨_, rfl⟩
  have sW0 : W0.heap.size = w.heap.size + 1 + 1 + 1 + 1 + 1 := by rw [← hW0]; simp
  change Code.wpIn _ _ _ _ _ _ (((((w.alloc (.cells #[.string ⟨key.toArray⟩] 9)).alloc (.cells #[.slice none 0 0] 31)).alloc (.map #[] 0)).alloc (.cells #[.map (some (w.heap.size + 1 + 1))] 81)).alloc (.cells #[.slice a h.length cap] 22))
  rw [hW0] at hS0 ⊢
  clear hW0
  refine rangeFunc_C rfl (by omega) (gf := 70) (lb := #[.pointer (some ⟨w.heap.size + 1 + 1 + 1 + 1, 0, none⟩)]) rfl trivial (enters_of Try.func70 (by kernel_rfl) rfl)
    (Kp := KpL w.heap.size (w.heap.size + 1 + 1 + 1 + 1) (w.heap.size + 1 + 1 + 1 + 1 + 1 + 1 + 1)) (H := w.heap.size + 1 + 1 + 1 + 1 + 1 + 1 + 1 + 1 + 1 + 1 + 1) (S := fun ys => ys = livP h) (Sp := fun pre => pre <+: livP h) (N := h.length)
    (fun V hV hs => by
      have := living8_stops h w a cap hT0 hG hn (w.heap.size + 1 + 1 + 1 + 1) (8 - 1) (W0.heap.size + 1) W0 V hS0.below hS0.be hV
      rw [hs, sW0] at this
      rw [sW0]
      exact this) (fun h k => KpL.trans h k) (fun W o o' h => by rw [sW0] at h ⊢; exact kpL_put (by omega) (by omega) (by omega) o h o') (fun _ => rfl)
    (ZInv w key (.slice a h.length cap) h) (fun _ _ _ => False)
    (fun s X Y row ⟨v, hs⟩ hg hr => ⟨v, hs.turn hg (fun r e => ⟨by have := (hr r e).1; omega, (hr r e).2⟩)⟩)
    (fun _ => ownFrom_false _)
    ⟨_, hS0⟩
    (fun x a' W => ∃ Bx, w.heap.size + 1 + 1 + 1 + 1 + 1 + 1 + 1 + 1 + 1 + 1 + 1 ≤ Bx ∧ SBox W Bx 48 #[.int .i64 h[x.val].1, .int .i64 h[x.val].2.1, .string ⟨h[x.val].2.2.1.toArray⟩, .string ⟨h[x.val].2.2.2.toArray⟩] ∧ a' = { tmps := #[.slice a h.length cap, .string ⟨key.toArray⟩, undef, .pointer (some ⟨w.heap.size, 0, none⟩), .slice none 0 0, .pointer (some ⟨w.heap.size + 1, 0, none⟩), .pointer (some ⟨w.heap.size + 1 + 1 + 1, 0, none⟩), .int .i64 (x.val : Int), .pointer (some ⟨Bx, 0, none⟩), undef, undef, .map (some (w.heap.size + 1 + 1)), .slice a h.length cap, livingF (w.heap.size + 1 + 1 + 1 + 1), .int .i64 (x.val : Int), evW h[x.val], undef, undef, undef, undef, undef, undef, undef, undef, undef, undef, undef, undef, undef, undef, undef, undef, undef, undef, undef, undef, undef, undef, undef, undef, undef], defers := [] })
    (fun x a' _ A B row hs hg hr => by
      obtain ⟨Bx, h1, h2, h4⟩ := hs
      exact ⟨Bx, h1, block_kept h2 hg (fun r e => (hr r e).2), h4⟩)
    ?assign ?body ?done ?stop
  case assign =>
    rintro l pre x W K ⟨v, hS⟩ hH hK
    have hsz := hS.size
    have b1 := (Below.refl W.heap.size W).alloc (Nat.le_refl _) (.cells #[.int .i64 h[x.val].1, .int .i64 h[x.val].2.1, .string ⟨h[x.val].2.2.1.toArray⟩, .string ⟨h[x.val].2.2.2.toArray⟩] 48)
    gi_wp2
    refine hK _ _ ((KeepsOthers.alloc _ _).from _) (kpL_bel (by omega) (by omega) (by omega) b1) ⟨v, hS.bel b1⟩ ⟨W.heap.size, by omega, SBox.new W _ _, rfl⟩
  case body =>
    rintro l pre x a' W ⟨v, hS⟩ hH ⟨Bx, hBx, hblk, rfl⟩ hlt
    have HW0 : Hid (W0.heap.size = w.heap.size + 1 + 1 + 1 + 1 + 1) := sW0
    clear sW0 hS0
    have hsz := hS.size
    have hxn := x.isLt
    have hgx := hG h[x.val] (List.getElem_mem _)
    obtain ⟨⟨y0, y1, y2, y3⟩, hy⟩ : ∃ y, h[x.val] = y := ⟨_, rfl⟩
    have HV : Hid (versF h key (pre ++ [x]) = versS h key (versF h key pre) x) := versF_snoc h key pre x
    have HLe := versF_le h key pre
    obtain ⟨s, hs⟩ : ∃ s, versF h key pre = s := ⟨_, rfl⟩
    rw [hs] at hS HLe HV
    have HS : Hid (versS h key s x = (if y0 = 3 ∧ y2 = key then updN s.1 y1 x.val else s.1, if y0 = 4 then s.2 ++ ((if y0 = 3 ∧ y2 = key then updN s.1 y1 x.val else s.1) y1).toList else s.2)) := by
      show _ = _
      unfold versS lastS
      rw [hy]
    clear hs
    rw [hy] at hblk hgx ⊢
    simp only at hblk hgx
    clear hy
    have ki := key8i hgx.2.1
    clear hgx
    obtain ⟨i, hxi⟩ : ∃ i, x.val = i := ⟨_, rfl⟩
    rw [hxi] at hxn HS ⊢
    clear hxi
    have LX : Hid ((pre ++ [x]).length = pre.length + 1) := by show _ = _; simp
    have c0 := hS.b0.cell
    have q0 := hblk.cell 0 _ rfl
    have q1 := hblk.cell 1 _ rfl
    have q2 := hblk.cell 2 _ rfl
    have q3 := hblk.cell 3 _ rfl
    have C := pwrites_any y0 y1 y2 y3 key W
    obtain ⟨s1, s2⟩ := s
    simp only at hS HLe HS
    by_cases hm : y0 = 3 ∧ y2 = key
    · rw [decide_eq_true hm] at C
      have e4 : (y0 == 4) = false := by rw [hm.1]; rfl
      have HR : Hid (versS h key (s1, s2) x = (updN s1 y1 i, s2)) := by
        show _ = _
        rw [HS.out, if_pos hm, if_neg (by rw [hm.1]; decide)]
      clear hm HS
      gi_wp2_with ((try refine ⟨trivial, ?_⟩); gi_at_call 65; refine (CallsIn.inRound l (callsIn_wide.2 C)).mono ?_; clear C; rintro e W1 ⟨rfl, b1⟩; refine Hid.out ?_)
      have z1 := b1.size
      have hS1 := hS.bel b1
      have x1 := hblk.below b1
      have d1 := x1.cell 1 _ rfl
      have c3 := hS1.bb.cell
      obtain ⟨D1, hown1, hD1⟩ := hS1.bm
      clear c0 q0 q1 q2 q3
      refine Lib.hid ?_
      gi_wp2_with (gi_at_mapUpdate; refine wpListIn_mapUpdate_own _ rfl _ _ _ 81 rfl 3 3 law8i Try.underlying81 _ (w.heap.size + 1 + 1) pre.length D1 rfl hown1 (by unfold maxLen; omega) _ _ _ rfl rfl ki _ [] (plainElem_int Try.underlying3 (WalkArith.wf_i64 (by omega))) ?_; intro W2 hown2 hg2; refine Hid.out ?_)
      have hS2 := hS1.map hg2 (IMap.put hD1 hown1.isMap y1 (i : Int) hown2)
      have x2 : SBox W2 Bx 48 _ := (hg2.block Bx x1.lt (fun e => by have := Option.some.inj e; omega)).trans x1
      have z2 := hg2.size
      have KK : KeepsFrom W0.heap.size W W2 := by
        have hw0 := HW0.out
        exact ((keeps_of_below b1).from _).trans (KeepsFrom.of_grownBy hg2 (fun j e => by cases e; omega))
      have KP : KpL w.heap.size (w.heap.size + 1 + 1 + 1 + 1) (w.heap.size + 1 + 1 + 1 + 1 + 1 + 1 + 1) W W2 := (kpL_bel (by omega) (by omega) (by omega) b1).trans (kpL_grown (by omega) (by omega) (by omega) hg2 (fun r e => by cases e; omega))
      have HF : Hid (KeepsFrom W0.heap.size W W2 ∧ KpL w.heap.size (w.heap.size + 1 + 1 + 1 + 1) (w.heap.size + 1 + 1 + 1 + 1 + 1 + 1 + 1) W W2 ∧ ZInv w key (.slice a h.length cap) h (pre ++ [x]) W2) := by
        refine ⟨KK, KP, v, ?_⟩
        rw [LX.out, HV.out, HR.out, ← oIf_upd]
        exact hS2
      have d0 := x2.cell 0 _ rfl
      have d1 := x2.cell 1 _ rfl
      have c3 := hS2.bb.cell
      obtain ⟨D2, hown2, hD2⟩ := hS2.bm
      have hy1 := (hD2 y1).1
      have hu : updI (oIf s1) y1 (i : Int) y1 = some (i : Int) := by unfold updI; rw [if_pos rfl]
      rw [hu] at hy1
      clear hS hS1 hS2 hD1 hD2 hown1 KK KP HR HV hu x1 x2
      refine Lib.hid ?_
      gi_wp2_with (gi_at_lookup; refine wpListIn_lookup_own_ok_int _ rfl _ _ 81 rfl 3 3 .i64 law8i Try.underlying81 Try.underlying3 (zero8i _) (w.heap.size + 1 + 1) (pre.length + 1) D2 rfl hown2 _ _ rfl ki ?_; rw [hy1]; intro c hc hwc; clear hc hwc)
      exact HF.out
    · rw [decide_eq_false hm] at C
      have HR : Hid (versS h key (s1, s2) x = (s1, if y0 = 4 then s2 ++ (s1 y1).toList else s2)) := by
        show _ = _
        rw [HS.out, if_neg hm]
      clear hm HS
      gi_wp2_with ((try refine ⟨trivial, ?_⟩); gi_at_call 65; refine (CallsIn.inRound l (callsIn_wide.2 C)).mono ?_; clear C; rintro e W1 ⟨rfl, b1⟩; refine Hid.out ?_)
      have z1 := b1.size
      have hS1 := hS.bel b1
      have x1 := hblk.below b1
      have d0 := x1.cell 0 _ rfl
      have d1 := x1.cell 1 _ rfl
      have c3 := hS1.bb.cell
      have cv := hS1.bv.cell
      have gv := hS1.bv.frozen
      obtain ⟨D1, hown1, hD1⟩ := hS1.bm
      have hy1 := (hD1 y1).1
      have KK : KeepsFrom W0.heap.size W W1 := (keeps_of_below b1).from _
      have KP : KpL w.heap.size (w.heap.size + 1 + 1 + 1 + 1) (w.heap.size + 1 + 1 + 1 + 1 + 1 + 1 + 1) W W1 := kpL_bel (by omega) (by omega) (by omega) b1
      clear c0 q0 q1 q2 q3 hS
      cases hf : s1 y1 with
      | none =>
        have hy2 : Maps.has D1 (.int .i64 y1) = false := by rw [hy1]; unfold oIf; rw [hf]; rfl
        have HF : Hid (KeepsFrom W0.heap.size W W1 ∧ KpL w.heap.size (w.heap.size + 1 + 1 + 1 + 1) (w.heap.size + 1 + 1 + 1 + 1 + 1 + 1 + 1) W W1 ∧ ZInv w key (.slice a h.length cap) h (pre ++ [x]) W1) := by
          refine ⟨KK, KP, v, ?_⟩
          have e : (if y0 = 4 then s2 ++ (s1 y1).toList else s2) = s2 := by rw [hf]; simp
          rw [LX.out, HV.out, HR.out, e]
          exact hS1.keep (Nat.le_succ _) rfl
        clear hS1 hD1 KK KP HR HV x1 hy1 hf
        refine Lib.hid ?_
        gi_wp2_with (gi_at_lookup; refine wpListIn_lookup_own_ok_int _ rfl _ _ 81 rfl 3 3 .i64 law8i Try.underlying81 Try.underlying3 (zero8i _) (w.heap.size + 1 + 1) pre.length D1 rfl hown1 _ _ rfl ki ?_; rw [hy2]; intro c hc hwc; clear hc hwc)
        exact HF.out
      | some q =>
        have hy2 : Maps.has D1 (.int .i64 y1) = true := by rw [hy1]; unfold oIf; rw [hf]; rfl
        have hat1 := (hD1 y1).2 (q : Int) (by unfold oIf; rw [hf]; rfl)
        by_cases d4 : y0 = 4
        · have e4 : (y0 == 4) = true := by rw [d4]; rfl
          have HQ : Hid ((if y0 = 4 then s2 ++ (s1 y1).toList else s2) = s2 ++ [q]) := by show _ = _; rw [hf, if_pos d4]; rfl
          have hrow := hS1.row
          clear hD1 hy1 hf d4
          refine Lib.hid ?_
          gi_wp2_with (first
            | (gi_at_lookup; refine wpListIn_lookup_own_ok_int _ rfl _ _ 81 rfl 3 3 .i64 law8i Try.underlying81 Try.underlying3 (zero8i _) (w.heap.size + 1 + 1) pre.length D1 rfl hown1 _ _ rfl ki ?_; rw [hy2]; intro c hc hwc; obtain rfl : c = (q : Int) := (by have := hc.symm.trans hat1; simpa using this); clear hc hwc)
            | (gi_at_builtin; refine wpListIn_append_own_at _ rfl _ _ 31 rfl w.heap.size 3 i0 (.int .i64 0) 1 8 Try.underlying31 hi hz0 hz1 hz2 rfl (by decide) _ _ _ rfl (hrow.alloc _) ⟨W1.heap.size, 0, none⟩ 1 1 [.int .i64 (q : Int)] rfl rfl ?a1 ?a2 ?a3 ?a4 ?a5 ?_))
          case a1 => intro j u hj; match j, hj with
            | 0, hj => simp at hj; subst hj; simp [Addr.add]
          case a2 => intro u hu; simp at hu; subst hu; rfl
          case a3 => simp; unfold maxLen; omega
          case a4 => simp; omega
          case a5 => simp; omega
          intro v' W2 hown2 hg2 _ hat2
          obtain ⟨g', cap', rfl⟩ := ownsRow_succ hown2
          have hS2 := hS1.app (by omega) hown2 hg2 hat2
          have cv2 := ((hS1.bv.alloc (.cells #[.int .i64 (q : Int)] 3)).kept hg2 (fun e => by have := hS1.far _ e.symm; omega)).cell
          have gv2 := ((hS1.bv.alloc (.cells #[.int .i64 (q : Int)] 3)).kept hg2 (fun e => by have := hS1.far _ e.symm; omega)).frozen
          have z2 := hg2.size
          rw [World.size_alloc] at z2
          have KK2 := (KK.trans ((KeepsOthers.alloc W1 (.cells #[.int .i64 (q : Int)] 3)).from _)).trans ((keeps_row (hrow.alloc (.cells #[.int .i64 (q : Int)] 3)) hg2).from _)
          have KP2 := (KP.trans (kpL_bel (by omega) (by omega) (by omega) ((Below.refl W1.heap.size W1).alloc (Nat.le_refl _) (.cells #[.int .i64 (q : Int)] 3)))).trans (kpL_grown (by simp; omega) (by simp; omega) (by simp; omega) hg2 (fun r e => by have := hS1.far r e; omega))
          have HF : Hid (KeepsFrom W0.heap.size W (W2.setCell ⟨w.heap.size + 1, 0, none⟩ (.slice (some ⟨g', 0, none⟩) (s2.length + 1) cap')) ∧ KpL w.heap.size (w.heap.size + 1 + 1 + 1 + 1) (w.heap.size + 1 + 1 + 1 + 1 + 1 + 1 + 1) W (W2.setCell ⟨w.heap.size + 1, 0, none⟩ (.slice (some ⟨g', 0, none⟩) (s2.length + 1) cap')) ∧ ZInv w key (.slice a h.length cap) h (pre ++ [x]) (W2.setCell ⟨w.heap.size + 1, 0, none⟩ (.slice (some ⟨g', 0, none⟩) (s2.length + 1) cap'))) := by
            refine ⟨KK2.trans ((KeepsOthers.setCell _ _ _).from _), KP2.trans (kpL_grown (by omega) (by omega) (by omega) (grownBy_setCell' _ _ _) (fun r e => by cases e; omega)), .slice (some ⟨g', 0, none⟩) (s2.length + 1) cap', ?_⟩
            rw [LX.out, HV.out, HR.out, HQ.out]
            have hS3 := hS2.keep (m' := pre.length + 1) (Nat.le_succ _) rfl
            simp only [List.map_append, List.map_cons, List.map_nil]
            rw [recI_snoc, List.length_append]
            simpa using hS3
          clear hS1 hS2 hown1 hown2 KK KP KK2 KP2 HR HV HQ x1 hrow hat1 hat2
          gi_wp2
          exact HF.out
        · have e4 : (y0 == 4) = false := beq_eq_false_iff_ne.2 d4
          have HF : Hid (KeepsFrom W0.heap.size W W1 ∧ KpL w.heap.size (w.heap.size + 1 + 1 + 1 + 1) (w.heap.size + 1 + 1 + 1 + 1 + 1 + 1 + 1) W W1 ∧ ZInv w key (.slice a h.length cap) h (pre ++ [x]) W1) := by
            refine ⟨KK, KP, v, ?_⟩
            rw [LX.out, HV.out, HR.out, if_neg d4]
            exact hS1.keep (Nat.le_succ _) rfl
          clear hS1 hD1 KK KP HR HV x1 hy1 hf d4
          refine Lib.hid ?_
          gi_wp2_with (gi_at_lookup; refine wpListIn_lookup_own_ok_int _ rfl _ _ 81 rfl 3 3 .i64 law8i Try.underlying81 Try.underlying3 (zero8i _) (w.heap.size + 1 + 1) pre.length D1 rfl hown1 _ _ rfl ki ?_; rw [hy2]; intro c hc hwc; clear hc hwc)
          exact HF.out
  case done =>
    rintro D ys W hD rfl ⟨v, hS⟩ hK
    have HE : Hid ((versF h key (livP h)).2 = versL h key) := vers_liv h key
    have c1 := hS.bv.cell
    have HD : Hid (w.heap.size + 1 + 1 + 1 + 1 + 1 ≤ D) := by rw [sW0] at hD; exact hD
    clear sW0 hS0 hD
    gi_wp2
    refine ⟨by simp, .inl ⟨_, _, rfl, run_takeDeferred hK, ?_⟩⟩
    refine ⟨_, results_tmp rfl _ _ _, _, rfl, hS.below.trans (belowK_b (w := w) (Nat.le_refl _) _ D _ _ (by have := HD.out; omega) hK rfl rfl), ?_⟩
    have hr := hS.row
    rw [HE.out] at hr
    exact ownsRow_putObj hr _ hK rfl
  case stop =>
    rintro D c pre W hD hSp h hK
    exact h.elim
end Go.Proofs.Yteehpkkkagdckaa
