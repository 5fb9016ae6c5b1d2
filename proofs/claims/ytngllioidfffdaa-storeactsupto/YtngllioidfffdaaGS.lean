/-
  What tape.records hands to a loop, whatever is done with it.
  What tape.Scan answers: the records that bytes begin with, and how many bytes these are.
-/
import Derived.Test.YtngllioidfffdaaGA
import Derived.Test.YtngllioidfffdaaGD
import Derived.Test.YtngllioidfffdaaGB
import Derived.Test.YtngllioidfffdaaGJ
import Derived.Lib.Hide
import Derived.Test.YtngllioidfffdaaGC
namespace Go.Proofs.Ytngllioidfffdaa
set_option maxRecDepth 100000
open Go.RowKit Go.Shelf
set_option linter.unusedVariables false
attribute [local go_sem] Oper.semAt_some ba_size
abbrev recsF (b : Nat) : Value := .func (.func 83) #[] #[.pointer (some ⟨b, 0, none⟩)]
theorem precords16_any (s : List UInt8) (w : World) :
    Calls Try.prog 76 #[.string ⟨s.toArray⟩] w fun e w' => e = .returned (recsF w.heap.size) ∧ w' = w.alloc (.cells #[.string ⟨s.toArray⟩] 9) := by
  go_enter Try.func76, Try.ntmps76
  go_wp2_with fail
  go_ret
  exact ⟨rfl, rfl⟩
def bytesOf : Value → Nat
  | .string b => b.size
  | _ => 0
abbrev itmV (x : Lm.Itm) : Array Value := #[.int .i64 x.1, .string ⟨x.2.toArray⟩]
set_option maxHeartbeats 2000000 in
theorem recs16_in (l : Nat) (s : List UInt8) (hs : s.length ≤ 8796093021952) (w0 : World) (bh k : Nat) (J Jx : List Lm.Itm → World → Prop)
    (hJ : ∀ pre W W', J pre W → Below W.heap.size W W' → J pre W')
    (hY : ∀ pre x W, J pre W → pre.length < (Lm.recsL s).length → YieldAt Fence.wide (k - 1) Try.prog l (itmV x) W fun e W' => (e = .returned (.bool true) ∧ J (pre ++ [x]) W' ∧ KpE w0.heap.size bh W W') ∨ (e = .returned (.bool false) ∧ Jx (pre ++ [x]) W'))
    (W : World) (hW : Below w0.heap.size w0 W) (hbox : Boxed W bh 9 (.string ⟨s.toArray⟩)) (h0 : J [] W) :
    CallsIn Fence.wide k Try.prog 83 #[.func (.yield l) #[] #[], .pointer (some ⟨bh, 0, none⟩)] W fun e W' => (∃ v, e = .returned v) ∧
      ((∃ ys, ys = Lm.itm 0 (Lm.recsL s) ∧ J ys W') ∨ (∃ pre, pre <+: Lm.itm 0 (Lm.recsL s) ∧ Jx pre W')) := by
  have hdd : ∀ k : Nat, (Fence.wide.depth.isSome = true → 1 ≤ k) := fun k h => by cases h
  have c0 := hbox.cell
  refine callsIn_of_wp Try.func83 rfl trivial ?_ rfl
  simp only [Try.ntmps83, List.size_toArray, List.length_cons, List.length_nil, Nat.reduceAdd, Nat.reduceSub, Array.replicate_succ, Array.replicate_zero, List.push_toArray, List.append_toArray, List.nil_append, List.cons_append]
  gi_wp2
  gi_loopw [3] (fun r wr => ∃ a x, r = .string ⟨x.toArray⟩ ∧ Lm.At16 s a x ∧ J (Lm.itm 0 a) wr ∧ Below w0.heap.size w0 wr ∧ Boxed wr bh 9 (.string ⟨s.toArray⟩)) (fun r _ => bytesOf r)
  case atStart => exact ⟨[], s, rfl, Lm.at_start s, h0, hW, hbox⟩
  case round =>
    obtain ⟨a, x, rfl, hA, hJ0, hB, hbx⟩ := hrel
    have c1 := hbx.cell
    have hl := Lm.at_len hA
    have C := takeText_any x 65535 wr (by omega)
    by_cases ht : (Lm.takeTextL x 65535).2.2 = 0
    · obtain ⟨n1, n2, n3, n4⟩ := Lm.at_next hA ht
      obtain ⟨⟨t, x', e⟩, hy⟩ : ∃ y, Lm.takeTextL x 65535 = y := ⟨_, rfl⟩
      rw [hy] at n1 n2 n3 ht C
      simp only at n1 n2 n3 ht C
      subst ht
      obtain ⟨N, hN⟩ : ∃ N : Nat, (Lm.body a).length + (Lm.lenL t.length ++ t).length = N := ⟨_, rfl⟩
      have hit : Lm.itm 0 (a ++ [t]) = Lm.itm 0 a ++ [((N : Int), t)] := by
        rw [Lm.itm_append]
        simp only [Lm.itm, Nat.zero_add, hN]
      have HI : Hid (Lm.itm 0 (a ++ [t]) = Lm.itm 0 a ++ [((N : Int), t)]) := hit
      rw [hN] at n3
      have z1 : wrap64 ((s.length : Int) - (x'.length : Int)) = (N : Int) := by rw [n3]; unfold wrap64; omega
      have HM : Hid (x'.length < x.length) := n2
      have HA : Hid (Lm.At16 s (a ++ [t]) x') := n1
      have HP : Hid (Lm.itm 0 (a ++ [t]) <+: Lm.itm 0 (Lm.recsL s)) := by
        show _ <+: _
        rw [n1.2, Lm.itm_append 0 (a ++ [t])]
        exact List.prefix_append _ _
      have hn4 : (Lm.itm 0 a).length < (Lm.recsL s).length := by rw [Lm.itm_length]; exact n4
      clear hy n1 n2 n3 n4 hN hit hA hl
      gi_wp2
      refine ⟨trivial, hdd _, ?_⟩
      refine (callsIn_wide.2 C).mono ?_
      rintro e W1 ⟨rfl, b1⟩
      have HB1 := hB.trans (b1.mono hB.size)
      have hbx1 := boxed_below7 hbx b1
      have c2 := hbx1.cell
      obtain ⟨fn, tmps, assign, body, hy, hR⟩ := hY _ ((N : Int), t) _ (hJ _ _ _ hJ0 b1) hn4
      clear C hn4
      gi_wp2
      (try refine ⟨hdd _, ?_⟩)
      refine hR.mono ?_
      rintro e W3 (⟨rfl, hJ3, hk3⟩ | ⟨rfl, hJx3⟩)
      · have hbx3 : Boxed W3 bh 9 (.string ⟨s.toArray⟩) := hk3.2.trans hbx1
        gi_wp2
        go_roundw
        case rel => exact ⟨a ++ [t], x', rfl, HA.out, by rw [HI.out]; exact hJ3, HB1.trans hk3.1, hbx3⟩
        case measure => simp [bytesOf]; exact HM.out
      · gi_wp2
        refine bodyPost_ret (results_none rfl _ _ _) rfl ?_
        exact ⟨⟨_, rfl⟩, .inr ⟨_, by rw [← HI.out]; exact HP.out, hJx3⟩⟩
    · have hE := Lm.at_end hA ht
      obtain ⟨⟨t, x', e⟩, hy⟩ : ∃ y, Lm.takeTextL x 65535 = y := ⟨_, rfl⟩
      rw [hy] at ht C
      simp only at ht C
      have hb : ((e : Int) != 0) = true := by simp; omega
      have HE : Hid (Lm.recsL s = a) := hE
      clear hy hA hE hl ht
      gi_wp2
      refine ⟨trivial, hdd _, ?_⟩
      refine (callsIn_wide.2 C).mono ?_
      rintro e W1 ⟨rfl, b1⟩
      have hJ1 := hJ _ _ _ hJ0 b1
      gi_wp2
      refine ⟨fun f e => (by cases e), ?_⟩
      gi_wp2
      refine bodyPost_ret (results_none rfl _ _ _) rfl ?_
      exact ⟨⟨_, rfl⟩, .inl ⟨_, by rw [HE.out], hJ1⟩⟩
theorem recs16_stops (s : List UInt8) (hs : s.length ≤ 8796093021952) (w0 : World) (bh k : Nat) (w : World) (hW : Below w0.heap.size w0 w) (hbox : Boxed w bh 9 (.string ⟨s.toArray⟩)) :
    SeqStopsK Fence.wide k Try.prog 83 #[.pointer (some ⟨bh, 0, none⟩)] (fun x : Lm.Itm => itmV x) (KpE w0.heap.size bh) (fun ys => ys = Lm.itm 0 (Lm.recsL s)) (fun pre => pre <+: Lm.itm 0 (Lm.recsL s)) (Lm.recsL s).length w :=
  fun l J Jx W hb hJ _ hY h0 => recs16_in l s hs w0 bh k J Jx (fun pre V V' hj hbb => hJ pre V V' none hj (grown_below8 none hbb) (fun r e => by cases e)) hY W (hW.trans (hb.mono hW.size)) (boxed_below7 hbox hb) h0
end Go.Proofs.Ytngllioidfffdaa
namespace Go.Proofs.Ytngllioidfffdaa
set_option maxRecDepth 100000
open Go.RowKit Go.Shelf Go.Maps
set_option linter.unusedVariables false
attribute [local go_sem] Oper.semAt_some ba_size
/-- What a scan answers: a row of its own, and a number. -/
def ScanRes (w : World) (s : List UInt8) (e : Ending) (w' : World) : Prop :=
  ∃ v, e = .returned (.tuple #[v, .int .i64 (((Lm.body (Lm.recsL s)).length : Nat) : Int)]) ∧ Below w.heap.size w w' ∧ w'.ownsRow w.heap.size 9 1 v (Lm.recsL s).length (strV (Lm.recsL s))
/-- What is read: a row of its own. -/
def ReadRes (w : World) (L : List (List UInt8)) (e : Ending) (w' : World) : Prop :=
  ∃ v, e = .returned v ∧ Below w.heap.size w w' ∧ w'.ownsRow w.heap.size 9 1 v L.length (strV L)
structure LSt16 (w : World) (v : Value) (n : Nat) (xs : List Value) (m : Int) (W : World) : Prop where
  below : Below w.heap.size w W
  size : w.heap.size + 3 ≤ W.heap.size
  bv : Boxed W w.heap.size 26 v
  bm : Boxed W (w.heap.size + 1) 3 (.int .i64 m)
  row : W.ownsRow w.heap.size 9 1 v n xs
  far : ∀ g, v.ownBlock = some g → w.heap.size + 3 ≤ g
theorem LSt16.turn {w : World} {v : Value} {n : Nat} {xs : List Value} {m : Int} {W W' : World} {row : Option Nat} (h : LSt16 w v n xs m W) (hg : W.grownBy W' row) (hr : ∀ r, row = some r → w.heap.size + 3 ≤ r ∧ ∃ o : Obj, W.heap[r]? = some o ∧ o.isCells = false) : LSt16 w v n xs m W' :=
  ⟨h.below.grown hg (by have := h.size; omega) (fun r e => by have := (hr r e).1; omega), Nat.le_trans h.size hg.size, h.bv.kept hg (fun e => by have := (hr _ e.symm).1; omega), h.bm.kept hg (fun e => by have := (hr _ e.symm).1; omega), owns_turn h.row hg (fun r e => (hr r e).2), h.far⟩
theorem LSt16.app {w : World} {v v' : Value} {n n' : Nat} {xs ys : List Value} {m m' : Int} {W W' : World} {tmp : Obj} (h : LSt16 w v n xs m W) (hown : W'.ownsRow w.heap.size 9 1 v' n' ys) (hg : (W.alloc tmp).grownBy W' v.ownBlock) (hat : v'.ownBlock = v.ownBlock ∨ v'.ownBlock = some (W.heap.size + 1)) :
    LSt16 w v' n' ys m' ((W'.setCell ⟨w.heap.size, 0, none⟩ v').setCell ⟨w.heap.size + 1, 0, none⟩ (.int .i64 m')) := by
  have hs := h.size
  have hfar : ∀ g, v'.ownBlock = some g → w.heap.size + 3 ≤ g := fun g hv => by
    rcases hat with e | e
    · exact h.far g (by rw [← e]; exact hv)
    · rw [hv] at e
      have := Option.some.inj e
      omega
  have hsz := hg.size
  rw [World.size_alloc] at hsz
  have hb : Below w.heap.size w W' := (h.below.alloc h.below.size _).grown hg (by simp; omega) (fun r e => by have := h.far r e; omega)
  exact ⟨(hb.setCell (p := ⟨w.heap.size, 0, none⟩) (Nat.le_refl _) _).setCell (p := ⟨w.heap.size + 1, 0, none⟩) (by simp) _, by simp; omega,
    (((h.bv.alloc _).kept hg (fun e => by have := h.far _ e.symm; omega)).set _).other (by omega) _,
    (((h.bm.alloc _).kept hg (fun e => by have := h.far _ e.symm; omega)).other (by omega) _).set _,
    owns_keep7 (g := w.heap.size + 1) (j := 0) (owns_keep7 (g := w.heap.size) (j := 0) hown _ (fun e => by have := hfar _ e.symm; omega)) _ (fun e => by have := hfar _ e.symm; omega), hfar⟩
theorem ownsRow_succ16 {w : World} {B e k n : Nat} {v : Value} {xs : List Value} (h : w.ownsRow B e k v (n + 1) xs) : ∃ g cap, v = .slice (some ⟨g, 0, none⟩) (n + 1) cap := by
  rcases h.2 with ⟨_, h0⟩ | ⟨g, cap, cur, rfl, _⟩
  · omega
  · exact ⟨g, cap, rfl⟩
def LInv16 (w : World) (pre : List Lm.Itm) (W : World) : Prop := ∃ v, LSt16 w v pre.length (strV (pre.map (·.2))) (Lm.lastI pre) W
theorem hmx16 : Try.prog.follows .mixedOrders = true := by kernel_rfl
set_option maxHeartbeats 4000000 in
theorem pscan16_any (s : List UInt8) (hs : s.length ≤ 8796093021952) (w : World) :
    Calls Try.prog 61 #[.string ⟨s.toArray⟩] w fun e w' => ScanRes w s e w' := by
  have hmx := hmx16
  have hfew := Lm.recs_few s
  obtain ⟨i0, hi, hz0, hz1, hz2⟩ := info_parts str_info
  refine (callsIn_wide (n := 3)).1 ?_
  refine callsIn_of_wp_marks Try.func61 rfl trivial ?_ rfl
  simp only [Try.ntmps61, List.size_toArray, List.length_cons, List.length_nil, Nat.reduceAdd, Nat.reduceSub, Array.replicate_succ, Array.replicate_zero, List.push_toArray, List.append_toArray, List.nil_append, List.cons_append]
  gi_wp2
  refine ⟨trivial, ?_⟩
  refine (callsIn_wide.2 (precords16_any s _)).mono ?_
  rintro e w1 ⟨rfl, rfl⟩
  have hS0 : LSt16 w (.slice none 0 0) 0 [] 0 (((w.alloc (.cells #[.slice none 0 0] 26)).alloc (.cells #[.int .i64 0] 3)).alloc (.cells #[.string ⟨s.toArray⟩] 9)) :=
    ⟨(((Below.refl _ w).alloc (Nat.le_refl _) _).alloc (by simp) _).alloc (by simp; omega) _, by simp, ((Boxed.new w _ _).alloc _).alloc _, by have := (Boxed.new (w.alloc (.cells #[.slice none 0 0] 26)) 3 (.int .i64 0)).alloc (.cells #[.string ⟨s.toArray⟩] 9); rwa [World.size_alloc] at this, World.ownsRow_nil _ _ _ _, fun g hg => by simp [Value.ownBlock] at hg⟩
  have hbox0 := Boxed.new ((w.alloc (.cells #[.slice none 0 0] 26)).alloc (.cells #[.int .i64 0] 3)) 9 (.string ⟨s.toArray⟩)
  have hz : ((w.alloc (.cells #[.slice none 0 0] 26)).alloc (.cells #[.int .i64 0] 3)).heap.size = w.heap.size + 2 := by simp
  rw [hz] at hbox0 ⊢
  gi_wp2
  generalize ((w.alloc (.cells #[.slice none 0 0] 26)).alloc (.cells #[.int .i64 0] 3)).alloc (.cells #[.string ⟨s.toArray⟩] 9) = W0 at hS0 hbox0 ⊢
  have sW0 := hS0.size
  refine wpIn_rangeFunc_ownH rfl (by omega) (gf := 83) (lb := #[.pointer (some ⟨w.heap.size + 2, 0, none⟩)]) rfl trivial (enters_of Try.func83 (by kernel_rfl) rfl)
    (recs16_stops s hs w (w.heap.size + 2) (3 - 1) W0 hS0.below hbox0) (fun h k => kpE_t h k) (kpE_b (by omega) (by omega)) (Below.refl _ _) (fun _ => rfl)
    (LInv16 w) (fun _ _ _ => False)
    (fun s X Y row ⟨v, hs⟩ hg hr => ⟨v, hs.turn hg (fun r e => ⟨by have := (hr r e).1; omega, (hr r e).2⟩)⟩)
    (fun _ => ownFrom_false _)
    ⟨_, hS0⟩
    (fun x a' W => a' = { tmps := #[.string ⟨s.toArray⟩, undef, .slice none 0 0, .int .i64 0, .pointer (some ⟨w.heap.size, 0, none⟩), .pointer (some ⟨w.heap.size + 1, 0, none⟩), .int .i64 x.1, .string ⟨x.2.toArray⟩, .string ⟨s.toArray⟩, recsF (w.heap.size + 2), .int .i64 x.1, .string ⟨x.2.toArray⟩, undef, undef, undef, undef, undef, undef, undef], defers := [] })
    (fun x a' _ A B row hs hg hr => hs)
    ?assign ?body ?done ?stop
  case assign =>
    rintro l pre x W K ⟨v, hS⟩ hK
    gi_wp2
    exact hK _ _ (KeepsFrom.refl _ _) ⟨Below.refl _ _, rfl⟩ ⟨v, hS⟩ rfl
  case body =>
    rintro l pre x a' W hl hrec ⟨v, hS⟩ rfl hlt
    have HW0 : Hid (w.heap.size + 3 ≤ W0.heap.size) := sW0
    clear sW0 hS0 hl hrec hbox0
    obtain ⟨x0, x1⟩ := x
    have hsz := hS.size
    have cv := hS.bv.cell
    have cm := hS.bm.cell
    have hrow := hS.row
    simp only
    gi_wp2_with (gi_at_builtin; refine wpListIn_append_own_at _ rfl _ _ 26 rfl w.heap.size 9 i0 (.string ByteArray.empty) 1 16 Try.underlying26 hi hz0 hz1 hz2 rfl (by decide) _ _ _ rfl (hrow.alloc _) ⟨W.heap.size, 0, none⟩ 1 1 [.string ⟨x1.toArray⟩] rfl rfl ?a1 ?a2 ?a3 ?a4 ?a5 ?_)
    case a1 => intro j u hj; match j, hj with
      | 0, hj => simp at hj; subst hj; simp [Addr.add]
    case a2 => intro u hu; simp at hu; rcases hu with rfl; rfl
    case a3 => unfold maxLen; omega
    case a4 => omega
    case a5 => simp; omega
    intro v' W2 hown2 hg2 _ hat2
    obtain ⟨g', cap', rfl⟩ := ownsRow_succ16 hown2
    have hS2 := hS.app (m' := x0) hown2 hg2 (by simpa using hat2)
    have bv2 := (hS.bv.alloc (.cells #[.string ⟨x1.toArray⟩] 9)).kept hg2 (fun e => by have := hS.far _ e.symm; omega)
    have bm2 := (hS.bm.alloc (.cells #[.string ⟨x1.toArray⟩] 9)).kept hg2 (fun e => by have := hS.far _ e.symm; omega)
    have cv2 := bv2.cell
    have gv2 := bv2.frozen
    have cm2 := bm2.cell
    have gm2 := bm2.frozen
    have z2 := hg2.size
    rw [World.size_alloc] at z2
    have KK := ((((KeepsOthers.alloc W (.cells #[.string ⟨x1.toArray⟩] 9)).from W0.heap.size).trans ((keeps_row (hrow.alloc (.cells #[.string ⟨x1.toArray⟩] 9)) hg2).from _)).trans ((KeepsOthers.setCell W2 ⟨w.heap.size, 0, none⟩ (.slice (some ⟨g', 0, none⟩) (pre.length + 1) cap')).from _)).trans ((KeepsOthers.setCell (W2.setCell ⟨w.heap.size, 0, none⟩ (.slice (some ⟨g', 0, none⟩) (pre.length + 1) cap')) ⟨w.heap.size + 1, 0, none⟩ (.int .i64 x0)).from _)
    have KP : KpE w.heap.size (w.heap.size + 2) W ((W2.setCell ⟨w.heap.size, 0, none⟩ (.slice (some ⟨g', 0, none⟩) (pre.length + 1) cap')).setCell ⟨w.heap.size + 1, 0, none⟩ (.int .i64 x0)) :=
      ⟨(((((Below.refl w.heap.size W).alloc (by omega) (.cells #[.string ⟨x1.toArray⟩] 9)).grown hg2 (by simp; omega) (fun r e => by have := hS.far r e; omega)).setCell (p := ⟨w.heap.size, 0, none⟩) (Nat.le_refl _) _).setCell (p := ⟨w.heap.size + 1, 0, none⟩) (by simp) _), (Below.heap_setCell _ _ _ _ (by simp)).trans ((Below.heap_setCell _ _ _ _ (by simp)).trans ((hg2.block (w.heap.size + 2) (by simp; omega) (fun e => by have := hS.far _ e.symm; omega)).trans (Below.heap_alloc W _ _ (by omega))))⟩
    have HF : Hid (KeepsFrom W0.heap.size W ((W2.setCell ⟨w.heap.size, 0, none⟩ (.slice (some ⟨g', 0, none⟩) (pre.length + 1) cap')).setCell ⟨w.heap.size + 1, 0, none⟩ (.int .i64 x0)) ∧ KpE w.heap.size (w.heap.size + 2) W ((W2.setCell ⟨w.heap.size, 0, none⟩ (.slice (some ⟨g', 0, none⟩) (pre.length + 1) cap')).setCell ⟨w.heap.size + 1, 0, none⟩ (.int .i64 x0)) ∧ LInv16 w (pre ++ [(x0, x1)]) ((W2.setCell ⟨w.heap.size, 0, none⟩ (.slice (some ⟨g', 0, none⟩) (pre.length + 1) cap')).setCell ⟨w.heap.size + 1, 0, none⟩ (.int .i64 x0))) := by
      refine ⟨KK, KP, .slice (some ⟨g', 0, none⟩) (pre.length + 1) cap', ?_⟩
      rw [Lm.lastI_snoc, List.map_append, List.length_append]
      simp only [List.map_cons, List.map_nil, strV_snoc]
      exact hS2
    clear hS hS2 hown2 KK KP hrow hat2 bv2 bm2
    gi_wp2
    exact HF.out
  case done =>
    rintro D ys W hD rfl ⟨v, hS⟩ hK
    have c1 := hS.bv.cell
    have c2 := hS.bm.cell
    have HD : Hid (w.heap.size + 3 ≤ D) := by show _ ≤ _; omega
    clear sW0 hS0 hD hbox0
    gi_wp2
    gi_region
    gi_wp2
    have hS1 : LSt16 w v (Lm.itm 0 (Lm.recsL s)).length (strV ((Lm.itm 0 (Lm.recsL s)).map (·.2))) (Lm.lastI (Lm.itm 0 (Lm.recsL s))) W.drew := hS.turn (grown_below8 none (Below.refl _ W).drew) (fun r e => by cases e)
    have hK1 : W.drew.heap[D]? = some (.deferred (some [])) := hK
    rw [Lm.itm_length, Lm.itm_snd, Lm.lastI_itm] at hS1
    generalize W.drew = V at hS1 hK1 ⊢
    clear hS hK c1 c2
    rw [Lm.lastI_itm]
    refine ⟨by simp, .inl ⟨_, _, rfl, run_takeDeferred hK1, ?_⟩⟩
    exact ⟨_, results_tmp2 rfl _ _ _, _, rfl, hS1.below.trans (belowK_b (w := w) (Nat.le_refl _) _ D _ _ (by have := HD.out; omega) hK1 rfl rfl), ownsRow_putObj hS1.row _ hK1 rfl⟩
  case stop =>
    rintro D c pre W hD hSp h hK
    exact h.elim
end Go.Proofs.Ytngllioidfffdaa
