/-
  What taint.bads hands to a loop, whatever is done with it.
-/
import Derived.Test.YtljgflgfcbmgiaaGQ
import Derived.Test.YtljgflgfcbmgiaaGD
namespace Go.Proofs.Ytljgflgfcbmgiaa
set_option maxRecDepth 100000
open Go.RowKit Go.Shelf
set_option linter.unusedVariables false
attribute [local go_sem] Oper.semAt_some
abbrev badsF9 (b : Nat) : Value := .func (.func 33) #[] #[.pointer (some ⟨b, 0, none⟩)]
theorem pbads9_any (a : Option Addr) (n cap : Nat) (w : World) :
    Calls Try.prog 23 #[.slice a n cap] w fun e w' => e = .returned (badsF9 w.heap.size) ∧ w' = w.alloc (.cells #[.slice a n cap] 22) := by
  go_enter Try.func23, Try.ntmps23
  go_wp2_with fail
  go_ret
  exact ⟨rfl, rfl⟩
def badTo (h : List Ev) (k : Nat) : List Bd := (List.range k).filterMap (badAt h)
theorem badTo_len (h : List Ev) (k : Nat) : (badTo h k).length ≤ k := by
  have := List.length_filterMap_le (badAt h) (List.range k)
  rwa [List.length_range] at this
theorem badTo_no (h : List Ev) (k : Nat) (h0 : (atL h k).1 = 0) : badTo h (k + 1) = badTo h k := by
  unfold badTo
  rw [bads_next, show badAt h k = none by unfold badAt; rw [if_pos h0]]
  simp
theorem badTo_yes (h : List Ev) (k : Nat) (h0 : ¬ (atL h k).1 = 0) : badTo h (k + 1) = badTo h k ++ [atL h k] := by
  unfold badTo
  rw [bads_next, show badAt h k = some (atL h k) by unfold badAt; rw [if_neg h0]]
  rfl
theorem badTo_pre (h : List Ev) (k : Nat) (hk : k ≤ h.length) : badTo h k <+: badsL h := by
  obtain ⟨r, hr⟩ := bads_pre h h.length k hk
  exact ⟨r, by rw [bads_is, hr]; rfl⟩
abbrev badX (x : Bd) : Array Value := #[badA x]
set_option maxHeartbeats 2000000 in
theorem bads9_in (l : Nat) (h : List Ev) (w0 : World) (a : Option Addr) (cap : Nat) (hT : IsEvs w0 (.slice a h.length cap) h) (bh k : Nat) (J Jx : List Bd → World → Prop)
    (hJ : ∀ pre W W', J pre W → Below W.heap.size W W' → J pre W')
    (hY : ∀ pre x W, J pre W → pre.length < h.length → YieldAt Fence.wide (k - 1) Try.prog l (badX x) W fun e W' => (e = .returned (.bool true) ∧ J (pre ++ [x]) W' ∧ KpE w0.heap.size bh W W') ∨ (e = .returned (.bool false) ∧ Jx (pre ++ [x]) W'))
    (W : World) (hW : Below w0.heap.size w0 W) (hbox : Boxed W bh 22 (.slice a h.length cap)) (h0 : J [] W) :
    CallsIn Fence.wide k Try.prog 33 #[.func (.yield l) #[] #[], .pointer (some ⟨bh, 0, none⟩)] W fun e W' => (∃ v, e = .returned v) ∧
      ((∃ ys, ys = badsL h ∧ J ys W') ∨ (∃ pre, pre <+: badsL h ∧ Jx pre W')) := by
  have hdd : ∀ k : Nat, (Fence.wide.depth.isSome = true → 1 ≤ k) := fun k h => by cases h
  have CA := fun (i : Int) V hV => pat_any h (.slice a h.length cap) V (hT.below (w' := V) hV) i
  obtain ⟨a', cap', e1, h1, h2, h3, HC⟩ := hT.some_at
  obtain ⟨rfl, rfl⟩ : a' = a ∧ cap' = cap := by simpa [eq_comm] using e1
  clear e1 hT HC
  have c0 := hbox.cell
  refine callsIn_of_wp Try.func33 rfl trivial ?_ rfl
  simp only [Try.ntmps33, List.size_toArray, List.length_cons, List.length_nil, Nat.reduceAdd, Nat.reduceSub, Array.replicate_succ, Array.replicate_zero, List.push_toArray, List.append_toArray, List.nil_append, List.cons_append]
  gi_wp2
  gi_loopw [7] (fun i wr => ∃ k : Nat, k ≤ h.length ∧ i = .int .i64 k ∧ J (badTo h k) wr ∧ Below w0.heap.size w0 wr ∧ Boxed wr bh 22 (.slice a' h.length cap')) (fun i _ => h.length - (intOf i).toNat)
  case atStart => exact ⟨0, Nat.zero_le _, rfl, h0, hW, hbox⟩
  case round =>
    obtain ⟨k', hk, rfl, hJ0, hB, hbx⟩ := hrel
    have c1 := hbx.cell
    by_cases hlt : k' < h.length
    · have hA : atI h (k' : Int) = atL h k' := by unfold atI; rw [if_pos (by omega), Int.toNat_natCast]
      have C := CA (k' : Int) wr hB
      rw [hA] at C
      have i0 : (k' : Int) < (h.length : Int) := by omega
      obtain ⟨x, hx⟩ : ∃ x, atL h k' = x := ⟨_, rfl⟩
      have HX : Hid (atL h k' = x) := hx
      rw [hx] at C
      obtain ⟨x0, x1, x2⟩ := x
      clear hA hx
      by_cases hz : x0 = 0
      · have HZ : Hid (x0 = 0 ∧ x1 = 0 ∧ x2 = 0) := by
          have := at_zero h k' (by rw [HX.out]; exact hz)
          rw [HX.out] at this
          simp only [Prod.mk.injEq] at this
          exact this
        obtain ⟨rfl, rfl, rfl⟩ := HZ.out
        clear hz HZ
        gi_wp2
        refine ⟨trivial, hdd _, ?_⟩
        refine (callsIn_wide.2 C).mono ?_
        rintro e W1 ⟨rfl, b1⟩
        have X1 := SBox.new W1 29 #[.int .i64 0, .int .i64 0, .int .i64 0]
        have y0 := X1.cell 0 _ rfl
        have y1 := X1.cell 1 _ rfl
        have y2 := X1.cell 2 _ rfl
        have b2 := b1.alloc b1.size (.cells #[.int .i64 0, .int .i64 0, .int .i64 0] 29)
        have HJ1 : Hid (J (badTo h (k' + 1)) (W1.alloc (.cells #[.int .i64 0, .int .i64 0, .int .i64 0] 29))) := by
          show J _ _
          rw [badTo_no h k' (by rw [HX.out])]
          exact hJ _ _ _ hJ0 b2
        have HB1 := hB.trans (b2.mono hB.size)
        have hbx1 := boxed_below7 hbx b2
        gi_wp2
        refine ⟨fun f e => (by cases e), ?_⟩
        gi_wp2
        go_roundw
        case rel => exact ⟨k' + 1, by omega, by first | go_num | simp, HJ1.out, HB1, hbx1⟩
        case measure => simp [intOf]; omega
      · have hz1 : (x0 == 0) = false := beq_eq_false_iff_ne.2 hz
        gi_wp2
        refine ⟨trivial, hdd _, ?_⟩
        refine (callsIn_wide.2 C).mono ?_
        rintro e W1 ⟨rfl, b1⟩
        have X1 := SBox.new W1 29 #[.int .i64 x0, .int .i64 x1, .int .i64 x2]
        have y0 := X1.cell 0 _ rfl
        have y1 := X1.cell 1 _ rfl
        have y2 := X1.cell 2 _ rfl
        have b2 := b1.alloc b1.size (.cells #[.int .i64 x0, .int .i64 x1, .int .i64 x2] 29)
        have HB1 := hB.trans (b2.mono hB.size)
        have hbx1 := boxed_below7 hbx b2
        have hR0 := hY _ (x0, x1, x2) _ (hJ _ _ _ hJ0 b2) (by have := badTo_len h k'; omega)
        rw [← HX.out, ← badTo_yes h k' (by rw [HX.out]; exact hz), HX.out] at hR0
        obtain ⟨fn, tmps, assign, body, hy, hR⟩ := hR0
        simp only [badX, badA] at hy
        clear hz
        gi_wp2
        (try refine ⟨hdd _, ?_⟩)
        refine hR.mono ?_
        rintro e W3 (⟨rfl, hJ3, hk3⟩ | ⟨rfl, hJx3⟩)
        · have hbx3 : Boxed W3 bh 22 (.slice a' h.length cap') := hk3.2.trans hbx1
          gi_wp2
          go_roundw
          case rel => exact ⟨k' + 1, by omega, by first | go_num | simp, hJ3, HB1.trans hk3.1, hbx3⟩
          case measure => simp [intOf]; omega
        · gi_wp2
          refine bodyPost_ret (results_none rfl _ _ _) rfl ?_
          exact ⟨⟨_, rfl⟩, .inr ⟨_, badTo_pre h (k' + 1) (by omega), hJx3⟩⟩
    · obtain rfl : k' = h.length := by omega
      have hE : badTo h h.length = badsL h := rfl
      rw [hE] at hJ0
      clear hE
      gi_wp2
      go_end0
      exact ⟨⟨_, rfl⟩, .inl ⟨_, rfl, hJ0⟩⟩
theorem bads9_stops (h : List Ev) (w0 : World) (a : Option Addr) (cap : Nat) (hT : IsEvs w0 (.slice a h.length cap) h) (bh k : Nat) (w : World) (hW : Below w0.heap.size w0 w) (hbox : Boxed w bh 22 (.slice a h.length cap)) :
    SeqStopsK Fence.wide k Try.prog 33 #[.pointer (some ⟨bh, 0, none⟩)] (fun x : Bd => badX x) (KpE w0.heap.size bh) (fun ys => ys = badsL h) (fun pre => pre <+: badsL h) h.length w :=
  fun l J Jx W hb hJ _ hY h0 => bads9_in l h w0 a cap hT bh k J Jx (fun pre V V' hj hbb => hJ pre V V' none hj (grown_below8 none hbb) (fun r e => by cases e)) hY W (hW.trans (hb.mono hW.size)) (boxed_below7 hbox hb) h0
end Go.Proofs.Ytljgflgfcbmgiaa
