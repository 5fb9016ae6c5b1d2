/-
  What redact.events hands to a loop, whatever is done with it.
  What redact.firsts and redact.names make, and what these answer.
  What strconv.Itoa answers below 100.
  What redact.names makes, and what that answers.
-/
import Derived.Test.YtihggfkenhkglaaDoorGR
import Derived.Test.YtihggfkenhkglaaDoorGH
import Derived.RangeFuncNested
import Derived.RangeFuncBound
import Derived.RangeFuncCalls
import Derived.RangeFuncLeaves
import Derived.RangeFuncBox
import Derived.Shelf.Abstract
import Derived.Shelf.RegionOpen
import Derived.OwnWalkIn
import Derived.TacticsInMore
import Derived.LoopNIn
import Derived.LoopIn
import Derived.Maps.OwnSet
import Derived.Maps.OwnOps
import Derived.Test.YtihggfkenhkglaaDoorGA
import Derived.Test.YtihggfkenhkglaaDoorProg
import Derived.Test.YtihggfkenhkglaaDoorGB
import Derived.Lib.ItoaNum
import Derived.Lib.ItoaWalk
import Derived.Lib.Strings
import Derived.Lib.Walk
import Derived.WalkKit
import Derived.BigCall
import Derived.Laws.EntriesVeiled
namespace Go.Proofs.YtihggfkenhkglaaDoor
set_option maxRecDepth 100000
open Go.RowKit Go.Shelf
set_option linter.unusedVariables false
attribute [local go_sem] Oper.semAt_some
/-- A place and its event, as they are handed to a round. -/
abbrev ixV (h : List Ev) (i : Fin h.length) : Array Value := #[.int .i64 (i.val : Int), evW h[i.val]]
abbrev eventsF (b : Nat) : Value := .func (.func 46) #[] #[.pointer (some ⟨b, 0, none⟩)]
/-- What a round keeps: all that lay ahead, and the iterator's own box. -/
def KpE (n b : Nat) (W W' : World) : Prop := Below n W W' ∧ W'.heap[b]? = W.heap[b]?
theorem kpE_t {n b : Nat} {A B C : World} (h : KpE n b A B) (k : KpE n b B C) : KpE n b A C := ⟨h.1.trans k.1, k.2.trans h.2⟩
theorem kpE_b {n b : Nat} {w : World} (hn : n ≤ w.heap.size) (hb : b < w.heap.size) (W : World) (l : Nat) (o o' : Obj) (hl : w.heap.size ≤ l) (h : W.heap[l]? = some o) (h1 : o.isCells = false) (h2 : o.isWalk = false) : KpE n b W (W.putObj l o') :=
  ⟨belowK_b hn W l o o' hl h h1 h2, World.putObj_heap_other (by omega)⟩
theorem boxed_below7 {W W' : World} {B : Nat} {t : TypeId} {v : Value} (h : Boxed W B t v) (b : Below W.heap.size W W') : Boxed W' B t v := (b.block B h.lt).trans h
theorem pevents_any (a : Option Addr) (n cap : Nat) (w : World) :
    Calls Tryd.prog 33 #[.slice a n cap] w fun e w' => e = .returned (eventsF w.heap.size) ∧ w' = w.alloc (.cells #[.slice a n cap] 37) := by
  go_enter Tryd.func33, Tryd.ntmps33
  go_wp2_with fail
  go_ret
  exact ⟨rfl, rfl⟩
set_option maxHeartbeats 1000000 in
theorem events1_in (l : Nat) (h : List Ev) (w0 : World) (a : Option Addr) (cap : Nat) (hT : IsEvs w0 (.slice a h.length cap) h) (bh k : Nat) (J Jx : List (Fin h.length) → World → Prop)
    (hY : ∀ pre x W, J pre W → pre.length < h.length → YieldAt Fence.wide (k - 1) Tryd.prog l (ixV h x) W fun e W' => (e = .returned (.bool true) ∧ J (pre ++ [x]) W' ∧ KpE w0.heap.size bh W W') ∨ (e = .returned (.bool false) ∧ Jx (pre ++ [x]) W'))
    (W : World) (hW : Below w0.heap.size w0 W) (hbox : Boxed W bh 37 (.slice a h.length cap)) (h0 : J [] W) :
    CallsIn Fence.wide k Tryd.prog 46 #[.func (.yield l) #[] #[], .pointer (some ⟨bh, 0, none⟩)] W fun e W' => (∃ v, e = .returned v) ∧
      ((∃ ys, ys = List.finRange h.length ∧ J ys W') ∨ (∃ pre, pre <+: List.finRange h.length ∧ Jx pre W')) := by
  have hdd : ∀ k : Nat, (Fence.wide.depth.isSome = true → 1 ≤ k) := fun k h => by cases h
  obtain ⟨a', cap', e1, h1, h2, h3, HC⟩ := hT.some_at
  obtain ⟨rfl, rfl⟩ : a' = a ∧ cap' = cap := by simpa [eq_comm] using e1
  clear e1 hT
  have c0 := hbox.cell
  refine callsIn_of_wp Tryd.func46 rfl trivial ?_ rfl
  simp only [Tryd.ntmps46, List.size_toArray, List.length_cons, List.length_nil, Nat.reduceAdd, Nat.reduceSub, Array.replicate_succ, Array.replicate_zero, List.push_toArray, List.append_toArray, List.nil_append, List.cons_append]
  gi_wp2
  gi_loopw [6] (fun i wr => ∃ k : Nat, k ≤ h.length ∧ i = .int .i64 k ∧ J ((List.finRange h.length).take k) wr ∧ Below w0.heap.size w0 wr ∧ Boxed wr bh 37 (.slice a' h.length cap')) (fun i _ => h.length - (intOf i).toNat)
  case atStart => exact ⟨0, Nat.zero_le _, rfl, h0, hW, hbox⟩
  case round =>
    obtain ⟨k', hk, rfl, hJ, hB, hbx⟩ := hrel
    have c1 := hbx.cell
    by_cases hlt : k' < h.length
    · obtain ⟨bb, off, rfl, hblt, hcell⟩ := HC.out k' hlt
      obtain ⟨p0, p1, p2, p3⟩ := IsEvs.at hlt hcell
      have q0 := (hB.cell (p := ⟨bb, off + k' * 4, none⟩) hblt).trans p0
      have q1 := (hB.cell (p := ⟨bb, off + k' * 4 + 1, none⟩) hblt).trans p1
      have q2 := (hB.cell (p := ⟨bb, off + k' * 4 + 2, none⟩) hblt).trans p2
      have q3 := (hB.cell (p := ⟨bb, off + k' * 4 + 3, none⟩) hblt).trans p3
      have hR0 := hY _ ⟨k', hlt⟩ wr hJ (by rw [List.length_take, List.length_finRange]; omega)
      rw [← fin_take hlt] at hR0
      obtain ⟨⟨x0, x1, x2, x3⟩, hx⟩ : ∃ x, h[k'] = x := ⟨_, rfl⟩
      simp only [ixV, evW, hx] at hR0
      rw [hx] at q0 q1 q2 q3
      obtain ⟨fn, tmps, assign, body, hy, hR⟩ := hR0
      clear p0 p1 p2 p3 hcell hx
      have i0 : (k' : Int) < (h.length : Int) := by omega
      gi_wp2
      refine ⟨hdd _, ?_⟩
      refine hR.mono ?_
      rintro e W3 (⟨rfl, hJ3, hk3⟩ | ⟨rfl, hJx3⟩)
      · have hbx3 : Boxed W3 bh 37 (.slice (some ⟨bb, off, none⟩) h.length cap') := hk3.2.trans hbx
        gi_wp2
        go_roundw
        case rel => exact ⟨k' + 1, by omega, by first | go_num | simp, hJ3, hB.trans hk3.1, hbx3⟩
        case measure => simp [intOf]; omega
      · gi_wp2
        refine bodyPost_ret (results_none rfl _ _ _) rfl ?_
        exact ⟨⟨_, rfl⟩, .inr ⟨_, List.take_prefix _ _, hJx3⟩⟩
    · obtain rfl : k' = h.length := by omega
      have hE : (List.finRange h.length).take h.length = List.finRange h.length := List.take_of_length_le (by rw [List.length_finRange]; exact Nat.le_refl _)
      rw [hE] at hJ
      clear hE
      gi_wp2
      go_end0
      exact ⟨⟨_, rfl⟩, .inl ⟨_, rfl, hJ⟩⟩
theorem events_stops (h : List Ev) (w0 : World) (a : Option Addr) (cap : Nat) (hT : IsEvs w0 (.slice a h.length cap) h) (bh k : Nat) (w : World) (hW : Below w0.heap.size w0 w) (hbox : Boxed w bh 37 (.slice a h.length cap)) :
    SeqStopsK Fence.wide k Tryd.prog 46 #[.pointer (some ⟨bh, 0, none⟩)] (fun x : Fin h.length => ixV h x) (KpE w0.heap.size bh) (fun ys => ys = List.finRange h.length) (fun pre => pre <+: List.finRange h.length) h.length w :=
  fun l J Jx W hb _ _ hY h0 => events1_in l h w0 a cap hT bh k J Jx hY W (hW.trans (hb.mono hW.size)) (boxed_below7 hbox hb) h0
end Go.Proofs.YtihggfkenhkglaaDoor
namespace Go.Proofs.YtihggfkenhkglaaDoor
set_option maxRecDepth 100000
open Go.RowKit Go.Maps
set_option linter.unusedVariables false
attribute [local go_sem] ba_size ba_append
theorem grown_trans7 {a b c : World} {x : Option Nat} (h : a.grownBy b x) (k : b.grownBy c x) : a.grownBy c x :=
  ⟨k.os.trans h.os, k.tape.trans h.tape, k.output.trans h.output, Nat.le_trans h.size k.size, fun i hi hne => (k.block i (Nat.lt_of_lt_of_le hi h.size) hne).trans (h.block i hi hne)⟩
theorem grown_of_below7 {a b : World} (x : Option Nat) (h : Below a.heap.size a b) : a.grownBy b x := ⟨h.os, h.tape, h.output, h.size, fun i hi _ => h.block i hi⟩
theorem law7 : Keyed Tryd.prog 9 := string_keyed Tryd.underlying9
theorem zero7 (w : World) : (zeroValue 3).run Tryd.prog w = .ok (.int .i64 0) w := by kernel_rfl
/-- A map of texts and their first places. -/
def FMap (W : World) (b n : Nat) (f : List UInt8 → Option Nat) : Prop :=
  ∃ D : DataW Unit, W.ownsMap Tryd.prog 9 (plainElem Tryd.prog 3) b n D ∧ ∀ t : List UInt8, Maps.has D (.string t) = (f t).isSome ∧ ∀ k, f t = some k → D.atKey (.string t) (.lit (.int .i64 0)) = .lit (.int .i64 (k : Int))
theorem FMap.kept {W W' : World} {b n : Nat} {f : List UInt8 → Option Nat} {row : Option Nat} (h : FMap W b n f) (hg : W.grownBy W' row) (hne : some b ≠ row) : FMap W' b n f := by
  obtain ⟨D, h1, h2⟩ := h
  exact ⟨D, h1.kept hg hne, h2⟩
theorem FMap.lt {W : World} {b n : Nat} {f : List UInt8 → Option Nat} (h : FMap W b n f) : b < W.heap.size := by
  obtain ⟨D, h1, h2⟩ := h
  exact h1.lt
theorem FMap.mono {W : World} {b n m : Nat} {f : List UInt8 → Option Nat} (h : FMap W b n f) (hn : n ≤ m) : FMap W b m f := by
  obtain ⟨D, h1, h2⟩ := h
  exact ⟨D, h1.mono hn, h2⟩
theorem FMap.made (w : World) : FMap (w.alloc (.map #[] 0)) w.heap.size 0 (fun _ => none) :=
  ⟨.map [], World.ownsMap_made w _ _ _, fun t => ⟨rfl, fun k h => by cases h⟩⟩
abbrev firstsF (b : Nat) : Value := .func (.func 55) #[] #[.pointer (some ⟨b, 0, none⟩)]
abbrev namesF (b : Nat) : Value := .func (.func 44) #[] #[.pointer (some ⟨b, 0, none⟩), .pointer (some ⟨b + 3, 0, none⟩)]
theorem pfirsts_any (w : World) :
    Calls Tryd.prog 43 #[] w fun e w' => e = .returned (firstsF (w.heap.size + 1)) ∧ w' = (w.alloc (.map #[] 0)).alloc (.cells #[.map (some w.heap.size)] 86) := by
  have hmm := @run_makeMap Tryd.prog
  go_enter Tryd.func43, Tryd.ntmps43
  go_wp2_with fail
  go_ret
  exact ⟨rfl, rfl⟩
set_option maxHeartbeats 1000000 in
theorem pfirst_any (W : World) (b m n : Nat) (f : List UInt8 → Option Nat) (t : List UInt8) (p : Nat) (hb : Boxed W b 86 (.map (some m))) (hM : FMap W m n f) (hn : n < 1000000) (ht : t.length ≤ 9223372036854770000) (hp : p < 1000000) :
    Calls Tryd.prog 55 #[.string ⟨t.toArray⟩, .int .i64 (p : Int), .pointer (some ⟨b, 0, none⟩)] W fun e W' => e = .returned (.int .i64 (((f t).getD p : Nat) : Int)) ∧ FMap W' m (n + 1) (updF f t p) ∧ W.grownBy W' (some m) := by
  obtain ⟨D, hown, hD⟩ := hM
  have c0 := hb.cell
  have hkey : keyOf Tryd.prog 9 (.string ⟨t.toArray⟩) = some (.string t) := by
    have := Go.WideMaps.keyOf_string_mk (P := Tryd.prog) (k := 9) (s := ⟨t.toArray⟩) Tryd.underlying9 (by rw [ba_size]; unfold maxLen; omega)
    simpa using this
  cases hf : f t with
  | some k =>
    have hhas : Maps.has D (.string t) = true := by rw [(hD t).1, hf]; rfl
    have hat : D.atKey (.string t) (.lit (.int .i64 0)) = .lit (.int .i64 (k : Int)) := (hD t).2 k hf
    have HU : Hid (updF f t p = f) := updF_there f t p k hf
    have HF : Hid (FMap W m (n + 1) (updF f t p)) := by
      show FMap _ _ _ _
      rw [HU.out]
      exact ⟨D, hown.mono (Nat.le_succ _), hD⟩
    have HR : Hid (W.grownBy W (some m)) := World.grownBy.refl _ _
    clear hf
    go_enter Tryd.func55, Tryd.ntmps55
    go_wp2_with (at_lookup; refine wpList_lookup_own_ok_int _ rfl _ _ 86 rfl 9 3 .i64 law7 Tryd.underlying86 Tryd.underlying3 (zero7 _) m n D rfl hown _ _ rfl hkey ?_; rw [hhas]; intro c hc hwc)
    obtain rfl : c = (k : Int) := by
      have := hc.symm.trans hat
      simpa using this
    go_wp2_with fail
    go_ret
    exact ⟨rfl, HF.out, HR.out⟩
  | none =>
    have hhas : Maps.has D (.string t) = false := by rw [(hD t).1, hf]; rfl
    have HF : Hid (∀ W', W'.ownsMap Tryd.prog 9 (plainElem Tryd.prog 3) m (n + 1) (D.put (.string t) (.lit (.int .i64 (p : Int)))) → FMap W' m (n + 1) (updF f t p)) := by
      intro W' ho
      refine ⟨_, ho, fun u => ?_⟩
      by_cases hu : u = t
      · subst hu
        rw [updF_same, hf]
        refine ⟨?_, fun k hk => ?_⟩
        · rw [has_put_same hown.isMap (show WideAt.IsKeyLit (.string u) from trivial)]; rfl
        · rw [atKey_put_same hown.isMap (show WideAt.IsKeyLit (.string u) from trivial)]
          simp at hk
          rw [hk]
      · rw [updF_other _ _ _ _ hu]
        have hne : (Lit.string u) ≠ Lit.string t := fun h => hu (by cases h; rfl)
        refine ⟨?_, fun k hk => ?_⟩
        · rw [has_put_other hne]; exact (hD u).1
        · rw [atKey_put_other hne]; exact (hD u).2 k hk
    clear hf
    go_enter Tryd.func55, Tryd.ntmps55
    go_wp2_with (first
      | (at_lookup; refine wpList_lookup_own_ok_int _ rfl _ _ 86 rfl 9 3 .i64 law7 Tryd.underlying86 Tryd.underlying3 (zero7 _) m n D rfl hown _ _ rfl hkey ?_; rw [hhas]; intro c hc hwc; clear hc hwc)
      | (at_mapUpdate; refine wpList_mapUpdate_own _ rfl _ _ _ 86 rfl 9 3 law7 Tryd.underlying86 _ m n D rfl hown (by unfold maxLen; omega) _ _ _ rfl rfl hkey _ [] (plainElem_int Tryd.underlying3 (WalkArith.wf_i64 (by omega))) ?_; intro w1 hown1 hgrow1))
    go_wp2_with fail
    go_ret
    exact ⟨rfl, HF.out _ hown1, hgrow1⟩
end Go.Proofs.YtihggfkenhkglaaDoor
namespace Go.Proofs.YtihggfkenhkglaaDoor
set_option maxRecDepth 100000
open Go.RowKit
set_option linter.unusedVariables false
theorem dec_figs (n : Nat) : Lib.decDigits n = figsL n := by
  induction n using Nat.strongRecOn with
  | _ n ih =>
    rw [Lib.decDigits, figsL_eq]
    by_cases h : n < 10
    · rw [dif_pos h, dif_pos h]
    · rw [dif_neg h, dif_neg h, ih (n / 10) (by omega)]
theorem small_ba7 (x : ByteArray) (l : List UInt8) (h : x.data.toList = l) : x = ⟨l.toArray⟩ := by
  subst h
  cases x
  simp
set_option maxHeartbeats 2000000 in
theorem psmall_any (i : Nat) (h : i < 100) (w : World) :
    Calls Tryd.prog 69 #[.int .i64 (i : Int)] w fun e w' => e = .returned (.string ⟨(figsL i).toArray⟩) ∧ w' = w := by
  rw [← dec_figs]
  go_enter Tryd.func69, Tryd.ntmps69
  go_name_bytes_deep 45 SM hSM
  have eSM : SM = Lib.smalls := by rw [← hSM]; decide +kernel
  subst eSM
  clear hSM
  go_name_bytes_deep 30 DG hDG
  have eDG : DG = Lib.digits36 := by rw [← hDG]; decide +kernel
  subst eDG
  clear hDG
  by_cases h10 : i < 10
  · have hsl : ∀ w, (Instr.slice 9 (.string Lib.digits36) (some (.int .i64 (i : Int))) (some (.int .i64 ((i : Int) + 1))) none).run Tryd.prog w = .ok (.string (Lib.digits36.extract i (i + 1))) w := fun w => by
      rw [run_slice_string w 9 Lib.digits36 .i64 .i64 _ _ Tryd.underlying9 (by omega) (by omega) (by rw [Lib.digits36_size]; omega), show ((i : Int)).toNat = i by omega, show ((i : Int) + 1).toNat = i + 1 by omega]
    go_wp2
    go_ret
    refine ⟨?_, rfl⟩
    show Ending.returned (Value.string (Lib.digits36.extract i (i + 1))) = _
    rw [small_ba7 (Lib.digits36.extract i (i + 1)) (Lib.decDigits i) (by rw [Lib.extract_data]; exact Lib.digits36_piece h10)]
  · have hsl : ∀ w, (Instr.slice 9 (.string Lib.smalls) (some (.int .i64 ((i : Int) * 2))) (some (.int .i64 ((i : Int) * 2 + 2))) none).run Tryd.prog w = .ok (.string (Lib.smalls.extract (i * 2) (i * 2 + 2))) w := fun w => by
      rw [run_slice_string w 9 Lib.smalls .i64 .i64 _ _ Tryd.underlying9 (by omega) (by omega) (by rw [Lib.smalls_size]; omega), show ((i : Int) * 2).toNat = i * 2 by omega, show ((i : Int) * 2 + 2).toNat = i * 2 + 2 by omega]
    go_wp2
    go_ret
    refine ⟨?_, rfl⟩
    show Ending.returned (Value.string (Lib.smalls.extract (i * 2) (i * 2 + 2))) = _
    rw [small_ba7 (Lib.smalls.extract (i * 2) (i * 2 + 2)) (Lib.decDigits i) (by rw [Lib.extract_data]; exact Lib.smalls_piece h10 h)]
theorem pformat_any (i : Nat) (h : i < 100) (w : World) :
    Calls Tryd.prog 62 #[.int .i64 (i : Int), .int .i64 10] w fun e w' => e = .returned (.string ⟨(figsL i).toArray⟩) ∧ w' = w := by
  have A := fun W => psmall_any i h W
  have i0 : (0 : Int) ≤ (i : Int) := by omega
  have i1 : (i : Int) < 100 := by omega
  go_enter Tryd.func62, Tryd.ntmps62
  go_wp2_with fail
  refine (A _).mono ?_
  rintro e w1 ⟨rfl, rfl⟩
  go_wp2_with fail
  go_ret
  exact ⟨rfl, rfl⟩
theorem pitoa0_any (i : Nat) (h : i < 100) (w : World) :
    Calls Tryd.prog 56 #[.int .i64 (i : Int)] w fun e w' => e = .returned (.string ⟨(figsL i).toArray⟩) ∧ w' = w := by
  have A := fun W => pformat_any i h W
  go_enter Tryd.func56, Tryd.ntmps56
  go_wp2_with fail
  refine (A _).mono ?_
  rintro e w1 ⟨rfl, rfl⟩
  go_wp2_with fail
  go_ret
  exact ⟨rfl, rfl⟩
theorem pitoa_any (i : Nat) (h : i < 100) (w : World) :
    Calls Tryd.prog 45 #[.int .i64 (i : Int)] w fun e w' => e = .returned (.string ⟨(figsL i).toArray⟩) ∧ w' = w := by
  have A := fun W => pitoa0_any i h W
  go_enter Tryd.func45, Tryd.ntmps45
  go_wp2_with fail
  refine (A _).mono ?_
  rintro e w1 ⟨rfl, rfl⟩
  go_wp2_with fail
  go_ret
  exact ⟨rfl, rfl⟩
end Go.Proofs.YtihggfkenhkglaaDoor
namespace Go.Proofs.YtihggfkenhkglaaDoor
set_option maxRecDepth 100000
open Go.RowKit Go.Maps
set_option linter.unusedVariables false
attribute [local go_sem] ba_size ba_append
/-- What names leaves: the letter's box, the map's box, the first one's box. -/
structure NBox (W : World) (b : Nat) (c : UInt8) : Prop where
  l : Boxed W b 9 (.string ⟨#[c]⟩)
  m : Boxed W (b + 2) 86 (.map (some (b + 1)))
  f : Boxed W (b + 3) 75 (firstsF (b + 2))
theorem NBox.kept {W W' : World} {b : Nat} {c : UInt8} {row : Option Nat} (h : NBox W b c) (hg : W.grownBy W' row) (h0 : some b ≠ row) (h2 : some (b + 2) ≠ row) (h3 : some (b + 3) ≠ row) : NBox W' b c :=
  ⟨h.l.kept hg h0, h.m.kept hg h2, h.f.kept hg h3⟩
/-- What a call of names leaves. -/
def NamesAt (c : UInt8) (w : World) (e : Ending) (w' : World) : Prop :=
  e = .returned (namesF w.heap.size) ∧ NBox w' w.heap.size c ∧ FMap w' (w.heap.size + 1) 0 (fun _ => none) ∧ Below w.heap.size w w' ∧ w'.heap.size = w.heap.size + 4
theorem pnames_any (c : UInt8) (w : World) :
    Calls Tryd.prog 32 #[.string ⟨#[c]⟩] w fun e w' => NamesAt c w e w' := by
  have A := fun W => pfirsts_any W
  go_enter Tryd.func32, Tryd.ntmps32
  go_wp2_with fail
  refine (A _).mono ?_
  rintro e w1 ⟨rfl, rfl⟩
  go_wp2_with fail
  go_ret
  have b0 := (((Boxed.new w 9 (.string ⟨#[c]⟩)).alloc (.map #[] 0)).alloc (.cells #[.map (some (w.heap.size + 1))] 86)).alloc (.cells #[firstsF (w.heap.size + 2)] 75)
  have m0 := FMap.made (w.alloc (.cells #[.string ⟨#[c]⟩] 9))
  have m1 := (m0.kept (World.grownBy_alloc _ (.cells #[.map (some (w.heap.size + 1))] 86) none) (by simp)).kept (World.grownBy_alloc _ (.cells #[firstsF (w.heap.size + 2)] 75) none) (by simp)
  have b2 := (Boxed.new ((w.alloc (.cells #[.string ⟨#[c]⟩] 9)).alloc (.map #[] 0)) 86 (.map (some (w.heap.size + 1)))).alloc (.cells #[firstsF (w.heap.size + 2)] 75)
  have b3 := Boxed.new (((w.alloc (.cells #[.string ⟨#[c]⟩] 9)).alloc (.map #[] 0)).alloc (.cells #[.map (some (w.heap.size + 1))] 86)) 75 (firstsF (w.heap.size + 2))
  simp only [World.size_alloc] at m1 b2 b3
  refine ⟨by simp, ⟨?_, ?_, ?_⟩, ?_, ?_, ?_⟩
  · simpa using b0
  · simpa using b2
  · simpa using b3
  · simpa using m1
  · exact ((((Below.refl _ w).alloc (Nat.le_refl _) _).alloc (by simp) _).alloc (by simp; omega) _).alloc (by simp; omega) _
  · simp
set_option maxHeartbeats 1000000 in
theorem pname_any (W : World) (b n : Nat) (c : UInt8) (f : List UInt8 → Option Nat) (t : List UInt8) (p : Nat) (hb : NBox W b c) (hM : FMap W (b + 1) n f) (hn : n < 1000) (ht : t.length ≤ 9223372036854770000) (hp : p < 100) (hf : lessF f 100) :
    Calls Tryd.prog 44 #[.string ⟨t.toArray⟩, .int .i64 (p : Int), .pointer (some ⟨b, 0, none⟩), .pointer (some ⟨b + 3, 0, none⟩)] W fun e W' => e = .returned (.string ⟨(nmF c f t p).toArray⟩) ∧ FMap W' (b + 1) (n + 1) (stepF f t p) ∧ W.grownBy W' (some (b + 1)) := by
  by_cases h0 : t = []
  · subst h0
    have HE : Hid (nmF c f [] p = []) := by show _ = _; unfold nmF; rw [if_pos rfl]
    have HS : Hid (stepF f [] p = f) := by show _ = _; unfold stepF; rw [if_pos rfl]
    go_enter Tryd.func44, Tryd.ntmps44
    go_wp2_with fail
    go_ret
    exact ⟨by rw [HE.out]; rfl, by rw [HS.out]; exact hM.mono (Nat.le_succ _), World.grownBy.refl _ _⟩
  · have n0 : t.isEmpty = false := ne_nil7 t h0
    obtain ⟨q, hq⟩ : ∃ q, (f t).getD p = q := ⟨_, rfl⟩
    have q100 : q < 100 := by rw [← hq]; exact hf.get t p hp
    have HE : Hid (nmF c f t p = c :: figsL q) := by show _ = _; unfold nmF; rw [if_neg h0, hq]
    have HS : Hid (stepF f t p = updF f t p) := by show _ = _; unfold stepF; rw [if_neg h0]
    have F := fun V hV hV2 => pfirst_any V (b + 2) (b + 1) n f t p hV hV2 (by omega) ht (by omega)
    rw [hq] at F
    have A := fun V => pitoa_any q q100 V
    have z1 : 1 + (figsL q).length ≤ 9223372036854775807 := by
      have := figsN_len q 2 (by omega)
      omega
    have c0 := hb.l.cell
    have c3 := hb.f.cell
    have e0 : Boxed W.drew (b + 2) 86 (.map (some (b + 1))) := hb.m
    have e1 : FMap W.drew (b + 1) n f := hM
    obtain ⟨fs, hfs⟩ : ∃ fs, figsL q = fs := ⟨_, rfl⟩
    rw [hfs] at HE A z1
    clear h0 hq hfs
    go_enter Tryd.func44, Tryd.ntmps44
    go_wp2_with fail
    refine wp_region_any (by kernel_rfl) ?_
    change wpAny _ _ _ _ _ _ _ (World.drew _)
    refine any_of_C (C := fun V => V.cell? ⟨b, 0, none⟩ = some (.string ⟨#[c]⟩) ∧ V.cell? ⟨b + 3, 0, none⟩ = some (firstsF (b + 2))) 7 _ _ _ _ ?_
    refine takeC (i := 0) (v := .string ⟨#[c]⟩) rfl (by kernel_rfl) (by kernel_rfl) (by kernel_rfl) (by kernel_rfl) (by kernel_rfl) (fun _ _ _ h => h) (Or.inl ⟨by kernel_rfl, fun V hV => by obtain ⟨r0, r1⟩ := hV; go_simp⟩) ?_
    refine takeC (i := 1) (v := firstsF (b + 2)) rfl (by kernel_rfl) (by kernel_rfl) (by kernel_rfl) (by kernel_rfl) (by kernel_rfl) (fun _ _ _ h => h) (Or.inl ⟨by kernel_rfl, fun V hV => by obtain ⟨r0, r1⟩ := hV; go_simp⟩) ?_
    refine takeC (i := 2) (v := .string ⟨t.toArray⟩) rfl (by kernel_rfl) (by kernel_rfl) (by kernel_rfl) (by kernel_rfl) (by kernel_rfl) (fun _ _ _ h => h) (Or.inl ⟨by kernel_rfl, fun V hV => by obtain ⟨r0, r1⟩ := hV; go_simp⟩) ?_
    refine takeC (i := 3) (v := .int .i64 (p : Int)) rfl (by kernel_rfl) (by kernel_rfl) (by kernel_rfl) (by kernel_rfl) (by kernel_rfl) (fun _ _ _ h => h) (Or.inl ⟨by kernel_rfl, fun V hV => by obtain ⟨r0, r1⟩ := hV; go_simp⟩) ?_
    refine consC (i := 4) (by kernel_rfl) (by kernel_rfl) ⟨c0, c3⟩ rfl (fun K hK => ?_)
    go_wp2_with fail
    refine (F _ e0 e1).mono ?_
    rintro e W3 ⟨rfl, hM3, hg3⟩
    have hb3 : NBox W3 b c := NBox.kept (W := W.drew) ⟨hb.l, hb.m, hb.f⟩ hg3 (by simp) (by simp) (by simp)
    have d0 := hb3.l.cell
    have d3 := hb3.f.cell
    go_wp2_with fail
    refine consC (i := 5) (by kernel_rfl) (by kernel_rfl) ⟨d0, d3⟩ rfl (fun K hK => ?_)
    go_wp2_with fail
    refine (A _).mono ?_
    rintro e W4 ⟨rfl, rfl⟩
    go_wp2_with fail
    refine consC (i := 6) (by kernel_rfl) (by kernel_rfl) ⟨d0, d3⟩ rfl (fun K hK => ?_)
    go_wp2_with fail
    refine lastC (by kernel_rfl) (by kernel_rfl) ⟨d0, d3⟩ (of_decide_eq_true (by kernel_rfl)) ?_
    refine any_seqI [7] [_] _ _ _ rfl (by kernel_rfl) ?_
    go_wp2_with fail
    go_ret
    exact ⟨by rw [HE.out]; rfl, by rw [HS.out]; exact hM3, ⟨hg3.os, hg3.tape, hg3.output, hg3.size, hg3.block⟩⟩
end Go.Proofs.YtihggfkenhkglaaDoor
