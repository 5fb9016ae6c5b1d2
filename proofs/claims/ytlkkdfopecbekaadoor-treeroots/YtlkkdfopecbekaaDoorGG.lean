/-
  A row of bytes made just now, as a string.
  What cartoucheref01.Num answers, at whatever number.
  What cartoucheref03.LeafIn, NodeIn, RootIn, Leaf, Node and half answer.
  What cartoucheref03.Top, Crown and Root answer.
  What cartoucheref03.Path answers.
  What cartoucheref03.inputs answers.
  What cartoucheref03.Climb and Check answer.
  What cartoucheref03.unlike and Check answer.
  What cartoucheref03.Clash answers.
  What cartoucheref03.crowns and Differ answer.
  What cartoucheref03.Differ answers.
  What cartoucheref01.Same answers, of whatever two rows of texts.
  What cartoucheref01.Same answers, of whatever two rows of texts (IsTxt).
-/
import Derived.Test.YtlkkdfopecbekaaDoorProg
import Derived.Test.YtlkkdfopecbekaaDoorGA
import Derived.Test.YtlkkdfopecbekaaDoorGB
import Derived.Test.YtlkkdfopecbekaaDoorGF
import Derived.Test.YtlkkdfopecbekaaDoorZP2Fold
import Derived.Test.YtlkkdfopecbekaaDoorGH
import Derived.Test.YtlkkdfopecbekaaDoorZRes3
import Derived.BigQuiet
import Derived.Deep.QuietTactic
namespace Go.Proofs.YtlkkdfopecbekaaDoor
set_option maxRecDepth 100000
open Go.RowKit
/-- A row of bytes that was made just now, as a string. -/
theorem conv_row (W : World) (C : Array Value) (t : TypeId) (off n cap : Nat) (xs : List Int) (hn : xs.length = n) (hc : ∀ i, i < n → C[off + i]? = some (.int .u8 (xs.getD i 0))) :
    (convert 92 9 (.slice (some ⟨W.heap.size, off, none⟩) n cap)).run Tryd.prog (W.alloc (.cells C t)) = .ok (.string (strOfNums xs)) (W.alloc (.cells C t)) :=
  run_convert_bytes_arg (P := Tryd.prog) (W.alloc (.cells C t)) 92 5 (by kernel_rfl) (by kernel_rfl) W.heap.size off n cap xs hn (fun i hi => by rw [World.cell?_alloc_new]; exact hc i hi) 9 (by kernel_rfl)
theorem conv1 (W : World) (x : Int) (t : TypeId) :
    (convert 92 9 (.slice (some ⟨W.heap.size, 0, none⟩) 1 1)).run Tryd.prog (W.alloc (.cells #[.int .u8 x] t)) = .ok (.string ⟨[UInt8.ofNat x.toNat].toArray⟩) (W.alloc (.cells #[.int .u8 x] t)) :=
  conv_row W _ t 0 1 1 [x] rfl (fun i hi => by obtain rfl : i = 0 := by omega
                                               rfl)
theorem conv3 (W : World) (x y z : Int) (t : TypeId) :
    (convert 92 9 (.slice (some ⟨W.heap.size, 0, none⟩) 3 3)).run Tryd.prog (W.alloc (.cells #[.int .u8 x, .int .u8 y, .int .u8 z] t)) = .ok (.string ⟨[UInt8.ofNat x.toNat, UInt8.ofNat y.toNat, UInt8.ofNat z.toNat].toArray⟩) (W.alloc (.cells #[.int .u8 x, .int .u8 y, .int .u8 z] t)) :=
  conv_row W _ t 0 3 3 [x, y, z] rfl (fun i hi => by
    have : i = 0 ∨ i = 1 ∨ i = 2 := by omega
    rcases this with rfl | rfl | rfl <;> rfl)
theorem conv3_1 (W : World) (x y z : Int) (t : TypeId) :
    (convert 92 9 (.slice (some ⟨W.heap.size, 2, none⟩) 1 1)).run Tryd.prog (W.alloc (.cells #[.int .u8 x, .int .u8 y, .int .u8 z] t)) = .ok (.string ⟨[UInt8.ofNat z.toNat].toArray⟩) (W.alloc (.cells #[.int .u8 x, .int .u8 y, .int .u8 z] t)) :=
  conv_row W _ t 2 1 1 [z] rfl (fun i hi => by obtain rfl : i = 0 := by omega
                                               rfl)
theorem nums_short (n : Nat) (h : n ≤ 250) : (⟨[UInt8.ofNat n].toArray⟩ : ByteArray) = ⟨(Lm.lenL n).toArray⟩ := by
  simp [Lm.lenL, h]
theorem nums_long (n : Nat) (h : ¬ n ≤ 250) : (⟨[251, UInt8.ofNat ((n : Int) / 256).toNat, UInt8.ofNat ((n : Int) % 256).toNat].toArray⟩ : ByteArray) = ⟨(Lm.lenL n).toArray⟩ := by
  have e1 : ((n : Int) / 256).toNat = n / 256 := by omega
  have e2 : ((n : Int) % 256).toNat = n % 256 := by omega
  simp only [Lm.lenL, h, if_false, e1, e2]
end Go.Proofs.YtlkkdfopecbekaaDoor
namespace Go.Proofs.YtlkkdfopecbekaaDoor
set_option maxRecDepth 100000
open Go.RowKit
attribute [local go_sem] ba_size ba_get ba_extract ba_append wrap_byte wrap_u64_byte take_drop_end
theorem low_succ (k v : Nat) : Lm.low (k + 1) v = UInt8.ofNat (v / 256 ^ k % 256) :: Lm.low k v := by
  rw [Lm.low]; congr 1; apply UInt8.toNat_inj.1; simp
theorem low_le (k v : Nat) (h : k ≤ 8) : (Lm.low k v).length ≤ 8 := by rw [Lm.low_length]; exact h
set_option maxHeartbeats 400000 in
theorem refNum_any (v : Nat) (hv : v < 18446744073709551616) (w : World) :
    Calls Tryd.prog 57 #[.int .u64 v] w fun e w' => e = .returned (.string ⟨(Lm.numL v).toArray⟩) ∧ Below w.heap.size w w' := by
  have c1 := conv1
  go_enter Tryd.func57, Tryd.ntmps57
  go_wp2
  go_loopw [0, 3, 4] (fun a s i wr => ∃ k : Nat, k ≤ 8 ∧ a = .int .u64 ((v / 256 ^ k : Nat) : Int) ∧ s = .string ⟨(Lm.low k v).toArray⟩ ∧ i = .int .i64 (k : Int) ∧ (k = 0 ∨ 0 < v / 256 ^ (k - 1)) ∧ Below w.heap.size w wr)
    (fun _ _ i _ => 8 - (intOf i).toNat)
  case atStart => exact ⟨0, by omega, by simp, rfl, rfl, .inl rfl, Below.refl _ _⟩
  case round =>
    obtain ⟨k, hk8, rfl, rfl, rfl, hk, hbw⟩ := hrel
    by_cases hlt : 0 < v / 256 ^ k
    · have hk8 := Lm.loop_le v k (by omega) hlt
      have hx : ((v / 256 ^ k : Nat) : Int) < 18446744073709551616 := by have := Nat.div_le_self v (256 ^ k); omega
      have hD : v / 256 ^ (k + 1) = v / 256 ^ k / 256 := by rw [Nat.pow_succ, Nat.div_div_eq_div_mul]
      generalize hxx : v / 256 ^ k = x at *
      have HD : Hid _ := hD; clear hD
      have HX : Hid _ := hxx; clear hxx
      have hll := low_le k v (by omega)
      go_wp2
      go_roundw
      case rel => exact ⟨k + 1, by omega, by rw [HD.out]; simp, by rw [low_succ, HX.out], by go_num, .inr (by simpa [HX.out] using hlt), hbw.alloc hbw.size _⟩
      case measure => simp [intOf]; omega
    · have hz : v / 256 ^ k = 0 := Nat.eq_zero_of_not_pos hlt
      obtain rfl := Lm.cnt_of_loop v k (by omega) hk hz
      rw [hz]
      clear hz hlt hk
      have hll := low_le (Lm.cnt v) v hk8
      go_wp2
      go_ret
      exact ⟨rfl, hbw.alloc hbw.size _⟩
end Go.Proofs.YtlkkdfopecbekaaDoor
namespace Go.Proofs.YtlkkdfopecbekaaDoor
set_option maxRecDepth 100000
open Go.RowKit
set_option linter.unusedVariables false
attribute [local go_sem] ba_size ba_get ba_extract ba_append take_drop_end
theorem sumL_len (S : List UInt8) : (sumL S).length = 32 := fl_len _ _
theorem rsumL_any (S : List UInt8) (hS : S.length ≤ 9223372036854775000) (w : World) :
    Calls Tryd.prog 31 #[.string ⟨S.toArray⟩] w fun e w' => e = .returned (.string ⟨(sumL S).toArray⟩) ∧ Below w.heap.size w w' := rsum_any S hS w
set_option maxHeartbeats 400000 in
theorem rleafIn_any (s : List UInt8) (hs : s.length ≤ 1125899906842624) (w : World) :
    Calls Tryd.prog 41 #[.string ⟨s.toArray⟩] w fun e w' => e = .returned (.string ⟨(leafI s).toArray⟩) ∧ Below w.heap.size w w' := by
  go_enter Tryd.func41, Tryd.ntmps41
  go_wp2
  go_ret
  exact ⟨rfl, Below.refl _ _⟩
set_option maxHeartbeats 400000 in
theorem rnodeIn_any (a b : List UInt8) (ha : a.length ≤ 1125899906842624) (hb : b.length ≤ 1125899906842624) (w : World) :
    Calls Tryd.prog 43 #[.string ⟨a.toArray⟩, .string ⟨b.toArray⟩] w fun e w' => e = .returned (.string ⟨(nodeI a b).toArray⟩) ∧ Below w.heap.size w w' := by
  have h1 : 1 + a.length + b.length ≤ 9223372036854775807 := by omega
  go_enter Tryd.func43, Tryd.ntmps43
  go_wp2
  go_ret
  exact ⟨rfl, Below.refl _ _⟩
set_option maxHeartbeats 400000 in
theorem rrootIn_any (n : Nat) (hn : n ≤ 140737488351232) (c : List UInt8) (hc : c.length ≤ 32) (w : World) :
    Calls Tryd.prog 35 #[.int .i64 n, .string ⟨c.toArray⟩] w fun e w' => e = .returned (.string ⟨(rootI n c).toArray⟩) ∧ Below w.heap.size w w' := by
  have x1 : IntKind.u64.wrap (n : Int) = n := by rw [IntKind.wrap_u64]; omega
  have hl := Lm.numL_length n
  have hcn : Lm.cnt n ≤ 8 := Lm.cnt_le n
  obtain ⟨N, hN⟩ : ∃ N, Lm.numL n = N := ⟨_, rfl⟩
  have hc1 := refNum_any n (by omega) w
  rw [hN] at hc1 hl
  have hl1 : 1 + N.length ≤ 9223372036854775807 := by omega
  have hl2 : 1 + N.length + c.length ≤ 9223372036854775807 := by omega
  go_enter Tryd.func35, Tryd.ntmps35
  go_wp2_with fail
  refine hc1.mono ?_
  rintro e w1 ⟨rfl, hb1⟩
  go_wp2_with fail
  go_ret
  exact ⟨by unfold rootI; rw [hN]; rfl, hb1⟩
set_option maxHeartbeats 400000 in
theorem rleaf_any (s : List UInt8) (hs : s.length ≤ 1125899906842624) (w : World) :
    Calls Tryd.prog 20 #[.string ⟨s.toArray⟩] w fun e w' => e = .returned (.string ⟨(sumL (leafI s)).toArray⟩) ∧ Below w.heap.size w w' := by
  have h1 := fun w1 => rsumL_any (leafI s) (by unfold leafI; simp; omega) w1
  obtain ⟨x, hx⟩ : ∃ x, sumL (leafI s) = x := ⟨_, rfl⟩
  rw [hx] at h1 ⊢
  go_enter Tryd.func20, Tryd.ntmps20
  go_wp2_with fail
  refine (rleafIn_any s hs w).mono ?_
  rintro e w1 ⟨rfl, hb1⟩
  go_wp2_with fail
  refine (h1 w1).mono ?_
  rintro e w2 ⟨rfl, hb2⟩
  go_wp2_with fail
  go_ret
  exact ⟨rfl, bel_trans hb1 hb2⟩
set_option maxHeartbeats 400000 in
theorem rnode_any (a b : List UInt8) (ha : a.length ≤ 1125899906842624) (hb : b.length ≤ 1125899906842624) (w : World) :
    Calls Tryd.prog 22 #[.string ⟨a.toArray⟩, .string ⟨b.toArray⟩] w fun e w' => e = .returned (.string ⟨(sumL (nodeI a b)).toArray⟩) ∧ Below w.heap.size w w' := by
  have h1 := fun w1 => rsumL_any (nodeI a b) (by unfold nodeI; simp; omega) w1
  obtain ⟨x, hx⟩ : ∃ x, sumL (nodeI a b) = x := ⟨_, rfl⟩
  rw [hx] at h1 ⊢
  go_enter Tryd.func22, Tryd.ntmps22
  go_wp2_with fail
  refine (rnodeIn_any a b ha hb w).mono ?_
  rintro e w1 ⟨rfl, hb1⟩
  go_wp2_with fail
  refine (h1 w1).mono ?_
  rintro e w2 ⟨rfl, hb2⟩
  go_wp2_with fail
  go_ret
  exact ⟨rfl, bel_trans hb1 hb2⟩
set_option maxHeartbeats 400000 in
theorem rhalf_any (n : Nat) (hn : n ≤ 140737488351232) (w : World) :
    Calls Tryd.prog 39 #[.int .i64 n] w fun e w' => e = .returned (.int .i64 (hf n)) ∧ Below w.heap.size w w' := by
  go_enter Tryd.func39, Tryd.ntmps39
  go_wp2
  go_loop [3] (fun i => ∃ k f : Nat, i = .int .i64 k ∧ 1 ≤ k ∧ k ≤ n + 1 ∧ Hid (hfGo f k n = hf n) ∧ n ≤ f + k) (fun i => n + 1 - (intOf i).toNat)
  case atStart => exact ⟨1, n, rfl, by omega, by omega, (rfl : _ = _), by omega⟩
  case round =>
    obtain ⟨k, f, rfl, h1, hkn, hh, hfk⟩ := hrel
    have x1 : IntKind.i64.wrap ((k : Int) + (k : Int)) = (k : Int) + (k : Int) := by rw [IntKind.wrap_i64]; omega
    by_cases hlt : k + k < n
    · have i0 : (k : Int) + (k : Int) < (n : Int) := by omega
      obtain ⟨f', e1, e2⟩ := hfGo_step f k n h1 hfk hlt
      have HE : Hid (hfGo f' (k + k) n = hf n) := e1.symm.trans hh.out
      clear e1
      go_wp2
      go_round
      case rel => exact ⟨k + k, f', by first | go_num | (simp), by omega, by omega, HE, e2⟩
      case measure => simp [intOf]; omega
    · have i0 : ¬ (k : Int) + (k : Int) < (n : Int) := by omega
      have HE : Hid (hf n = k) := by have := hh.out; rw [hfGo_end f k n hlt] at this; exact this.symm
      go_wp2
      go_ret
      exact ⟨by rw [HE.out]; rfl, Below.refl _ _⟩
end Go.Proofs.YtlkkdfopecbekaaDoor
namespace Go.Proofs.YtlkkdfopecbekaaDoor
set_option maxRecDepth 100000
open Go.RowKit
set_option linter.unusedVariables false
attribute [local go_sem] ba_size
theorem topL_len (sm : List UInt8 → List UInt8) (h32 : ∀ s, (sm s).length = 32) (l : List (List UInt8)) (hl : ∀ s ∈ l, s.length ≤ 1125899906842624) : (topL sm l).length ≤ 1125899906842625 := by
  by_cases h : 2 ≤ l.length
  · rw [topL_more sm l h]; unfold nodeI; simp [h32]
  · match l, h with
    | [], _ => rw [topL]; simp [leafI]
    | [s], _ => rw [topL_one]; have := hl s (by simp); simp [leafI]; omega
    | _ :: _ :: _, h => exact absurd (by simp) h
set_option maxHeartbeats 1000000 in
theorem rtop_any : ∀ (m : Nat) (ss : List (List UInt8)) (v : Value) (w : World), ss.length = m → 0 < m → IsTxt w v ss →
    Calls Tryd.prog 58 #[v] w fun e w' => e = .returned (.string ⟨(topL sumL ss).toArray⟩) ∧ Below w.heap.size w w' := by
  intro m
  induction m using Nat.strongRecOn with
  | _ m ih =>
    intro ss v w hm h0 hT
    have hbd := hT.bound
    obtain ⟨b, off, cap, rfl, hblt, hc1, hc2, hn, HC⟩ := hT.at (by omega)
    by_cases h1 : ss.length = 1
    · match ss, h1 with
      | [s], _ =>
        have c0 : w.cell? ⟨b, off, none⟩ = some (.string ⟨s.toArray⟩) := HC.out 0 (by simp)
        have hs := hbd s (by simp)
        rw [topL_one]
        clear ih hT HC hbd
        go_enter Tryd.func58, Tryd.ntmps58
        go_wp2_with fail
        refine (rleafIn_any s hs _).mono ?_
        rintro e w1 ⟨rfl, hb1⟩
        go_wp2_with fail
        go_ret
        exact ⟨rfl, hb1⟩
    · have hlt := hf_lt ss.length (by omega)
      have hps := hf_pos ss.length
      have hl1 : (ss.take (hf ss.length)).length = hf ss.length := by rw [List.length_take]; omega
      have hl2 : (ss.drop (hf ss.length)).length = ss.length - hf ss.length := List.length_drop
      have ht1 := topL_len sumL sumL_len (ss.take (hf ss.length)) (fun s hs => hbd s (List.mem_of_mem_take hs))
      have ht2 := topL_len sumL sumL_len (ss.drop (hf ss.length)) (fun s hs => hbd s (List.mem_of_mem_drop hs))
      have T1 := hT.take (hf ss.length) (by omega) (by omega)
      have T2 := hT.drop (hf ss.length) (by omega) (by omega)
      have I1 := fun w1 h => ih (hf ss.length) (by omega) (ss.take (hf ss.length)) (.slice (some ⟨b, off, none⟩) (hf ss.length) cap) w1 hl1 (by omega) h
      have I2 := fun w1 h => ih (ss.length - hf ss.length) (by omega) (ss.drop (hf ss.length)) (.slice (some ⟨b, off + hf ss.length, none⟩) (ss.length - hf ss.length) (cap - hf ss.length)) w1 hl2 (by omega) h
      have hH := fun w1 => rhalf_any ss.length (by omega) w1
      have HE : Hid (topL sumL ss = nodeI (sumL (topL sumL (ss.take (hf ss.length)))) (sumL (topL sumL (ss.drop (hf ss.length))))) := topL_more sumL ss (by omega)
      obtain ⟨k, hk⟩ : ∃ k, hf ss.length = k := ⟨_, rfl⟩
      rw [hk] at hlt hps T1 T2 I1 I2 hH HE ht1 ht2
      obtain ⟨A, hA⟩ : ∃ A, topL sumL (ss.take k) = A := ⟨_, rfl⟩
      obtain ⟨B, hB⟩ : ∃ B, topL sumL (ss.drop k) = B := ⟨_, rfl⟩
      rw [hA, hB] at HE
      rw [hA] at I1 ht1
      rw [hB] at I2 ht2
      have S1 := fun w1 => rsumL_any A (by omega) w1
      have S2 := fun w1 => rsumL_any B (by omega) w1
      have l1 := sumL_len A
      have l2 := sumL_len B
      obtain ⟨x, hx⟩ : ∃ x, sumL A = x := ⟨_, rfl⟩
      obtain ⟨y, hy⟩ : ∃ y, sumL B = y := ⟨_, rfl⟩
      rw [hx] at S1 l1 HE
      rw [hy] at S2 l2 HE
      have hN := fun w1 => rnodeIn_any x y (by omega) (by omega) w1
      obtain ⟨n, hnn⟩ : ∃ n, ss.length = n := ⟨_, rfl⟩
      simp only [hnn] at hlt h1 hc1 hn hH T1 T2 I1 I2 ⊢
      clear hA hB hx hy hk ih hT HC hbd hl1 hl2 hnn hm ht1 ht2
      have i1 : ((n : Int) == 1) = false := by simp; omega
      have i2 : (k : Int) ≤ (cap : Int) := by omega
      have i3 : (k : Int) ≤ (n : Int) := by omega
      have i4 : ¬ cap = k := by omega
      go_enter Tryd.func58, Tryd.ntmps58
      go_wp2_with fail
      refine (hH w).mono ?_
      rintro e w1 ⟨rfl, hb1⟩
      go_wp2_with fail
      refine wp_region_any (by kernel_rfl) ?_
      change wpAny _ _ _ _ _ _ _ (World.drew _)
      refine wpAny_take (i := 0) (v := .slice (some ⟨b, off, none⟩) n cap) rfl (by kernel_rfl) (by kernel_rfl) (by kernel_rfl) (fun _ _ _ h => h) (Or.inl ⟨by rfl, fun w => by go_simp⟩) ?_
      refine wpAny_take (i := 1) (v := .int .i64 k) rfl (by kernel_rfl) (by kernel_rfl) (by kernel_rfl) (fun _ _ _ h => h) (Or.inl ⟨by rfl, fun w => by go_simp⟩) ?_
      refine wpAny_take (i := 2) (v := .slice (some ⟨b, off, none⟩) k cap) rfl (by kernel_rfl) (by kernel_rfl) (by kernel_rfl) (fun _ _ _ h => h) (Or.inl ⟨by rfl, fun w => by go_simp⟩) ?_
      refine wpAny_take (i := 5) (v := .slice (some ⟨b, off, none⟩) n cap) rfl (by kernel_rfl) (by kernel_rfl) (by kernel_rfl) (fun _ _ _ h => h) (Or.inl ⟨by rfl, fun w => by go_simp⟩) ?_
      refine wpAny_take (i := 6) (v := .int .i64 k) rfl (by kernel_rfl) (by kernel_rfl) (by kernel_rfl) (fun _ _ _ h => h) (Or.inl ⟨by rfl, fun w => by go_simp⟩) ?_
      refine wpAny_take (i := 7) (v := .slice (some ⟨b, off + k, none⟩) (n - k) (cap - k)) rfl (by kernel_rfl) (by kernel_rfl) (by kernel_rfl) (fun _ _ _ h => h) (Or.inl ⟨by rfl, fun w => by go_simp⟩) ?_
      refine any_seqI [3, 4, 8, 9, 10, 11] [_, _, _, _, _, _] _ _ _ rfl (by kernel_rfl) ?_
      have hbd1 : Below w.heap.size w w1.drew := hb1.drew
      go_wp2_with fail
      refine (I1 _ (T1.below hbd1)).mono ?_
      rintro e w2 ⟨rfl, hb2⟩
      have hbw2 := bel_trans hbd1 hb2
      go_wp2_with fail
      refine (S1 w2).mono ?_
      rintro e w3 ⟨rfl, hb3⟩
      have hbw3 := bel_trans hbw2 hb3
      go_wp2_with fail
      refine (I2 _ (T2.below hbw3)).mono ?_
      rintro e w4 ⟨rfl, hb4⟩
      have hbw4 := bel_trans hbw3 hb4
      go_wp2_with fail
      refine (S2 w4).mono ?_
      rintro e w5 ⟨rfl, hb5⟩
      have hbw5 := bel_trans hbw4 hb5
      go_wp2_with fail
      refine (hN w5).mono ?_
      rintro e w6 ⟨rfl, hb6⟩
      go_wp2_with fail
      go_ret
      exact ⟨by rw [HE.out]; rfl, bel_trans hbw5 hb6⟩
set_option maxHeartbeats 400000 in
theorem rcrown_any (ss : List (List UInt8)) (v : Value) (w : World) (hT : IsTxt w v ss) :
    Calls Tryd.prog 36 #[v] w fun e w' => e = .returned (.string ⟨(crownL sumL ss).toArray⟩) ∧ Below w.heap.size w w' := by
  by_cases h0 : ss.length = 0
  · have HE : Hid (crownL sumL ss = []) := by show crownL sumL ss = []; unfold crownL; rw [if_pos h0]
    obtain ⟨a, cap, rfl, _⟩ := hT.len
    rw [h0]
    clear hT
    go_enter Tryd.func36, Tryd.ntmps36
    go_wp2_with fail
    go_ret
    exact ⟨by rw [HE.out]; rfl, Below.refl _ _⟩
  · have HE : Hid (crownL sumL ss = sumL (topL sumL ss)) := by show crownL sumL ss = _; unfold crownL; rw [if_neg h0]
    have ht := topL_len sumL sumL_len ss hT.bound
    have hA := fun w1 h => rtop_any ss.length ss v w1 rfl (by omega) h
    obtain ⟨A, eA⟩ : ∃ A, topL sumL ss = A := ⟨_, rfl⟩
    rw [eA] at HE ht hA
    have hS := fun w1 => rsumL_any A (by omega) w1
    have hT' := hT
    obtain ⟨a, cap, rfl, h1, h2, h3⟩ := hT.len
    have i0 : ((ss.length : Int) == 0) = false := by rw [beq_eq_false_iff_ne]; omega
    have hA' := hA w hT'
    clear eA hT hT' hA
    obtain ⟨n, hn⟩ : ∃ n, ss.length = n := ⟨_, rfl⟩
    simp only [hn] at *
    clear hn
    go_enter Tryd.func36, Tryd.ntmps36
    go_wp2_with fail
    refine hA'.mono ?_
    rintro e w1 ⟨rfl, hb1⟩
    go_wp2_with fail
    refine (hS w1).mono ?_
    rintro e w2 ⟨rfl, hb2⟩
    go_wp2_with fail
    go_ret
    exact ⟨by rw [HE.out]; rfl, bel_trans hb1 hb2⟩
theorem crownL_le (sm : List UInt8 → List UInt8) (h32 : ∀ s, (sm s).length = 32) (l : List (List UInt8)) : (crownL sm l).length ≤ 32 := by
  unfold crownL
  by_cases h : l.length = 0
  · rw [if_pos h]; simp
  · rw [if_neg h, h32]; omega
set_option maxHeartbeats 400000 in
theorem rroot_big (ss : List (List UInt8)) (v : Value) (w : World) (hT : IsTxt w v ss) (hb : 4096 < ss.length) :
    Calls Tryd.prog 15 #[v] w fun e w' => e = .returned (.tuple #[.string ⟨#[]⟩, .int .i64 4]) ∧ Below w.heap.size w w' := by
  obtain ⟨a, cap, rfl, h1, h2, h3⟩ := hT.len
  have i0 : (4096 : Int) < (ss.length : Int) := by omega
  clear hT
  go_enter Tryd.func15, Tryd.ntmps15
  go_wp2_with fail
  go_ret2
  exact ⟨rfl, Below.refl _ _⟩
set_option maxHeartbeats 400000 in
theorem rroot_any (ss : List (List UInt8)) (v : Value) (w : World) (hT : IsTxt w v ss) (hb : ss.length ≤ 4096) :
    Calls Tryd.prog 15 #[v] w fun e w' => e = .returned (.tuple #[.string ⟨(rootL sumL ss).toArray⟩, .int .i64 0]) ∧ Below w.heap.size w w' := by
  have hC := rcrown_any ss v w hT
  have lc := crownL_le sumL sumL_len ss
  have HE : Hid (rootL sumL ss = sumL (rootI ss.length (crownL sumL ss))) := (rfl : _ = _)
  obtain ⟨a, cap, rfl, h1, h2, h3⟩ := hT.len
  obtain ⟨c, hc⟩ : ∃ c, crownL sumL ss = c := ⟨_, rfl⟩
  rw [hc] at hC lc HE
  have hR := fun w1 => rrootIn_any ss.length (by omega) c lc w1
  have hl : (rootI ss.length c).length ≤ 50 := by
    unfold rootI
    have := Lm.numL_length ss.length
    have := Lm.cnt_le ss.length
    simp; omega
  obtain ⟨R, hRR⟩ : ∃ R, rootI ss.length c = R := ⟨_, rfl⟩
  rw [hRR] at hR hl HE
  have hS := fun w1 => rsumL_any R (by omega) w1
  have i0 : ¬ (4096 : Int) < (ss.length : Int) := by omega
  clear hRR hc hT
  obtain ⟨n, hn⟩ : ∃ n, ss.length = n := ⟨_, rfl⟩
  simp only [hn] at *
  clear hn
  go_enter Tryd.func15, Tryd.ntmps15
  go_wp2_with fail
  refine hC.mono ?_
  rintro e w1 ⟨rfl, hb1⟩
  go_wp2_with fail
  refine (hR w1).mono ?_
  rintro e w2 ⟨rfl, hb2⟩
  go_wp2_with fail
  refine (hS w2).mono ?_
  rintro e w3 ⟨rfl, hb3⟩
  go_wp2_with fail
  go_ret2
  exact ⟨by rw [HE.out]; rfl, bel_trans (bel_trans hb1 hb2) hb3⟩
end Go.Proofs.YtlkkdfopecbekaaDoor
namespace Go.Proofs.YtlkkdfopecbekaaDoor
set_option maxRecDepth 100000
open Go.RowKit
set_option linter.unusedVariables false
attribute [local go_sem] ba_size
theorem owns_mono {w : World} {B B' e k n : Nat} {v : Value} {xs : List Value} (h : w.ownsRow B e k v n xs) (hb : B' ≤ B) : w.ownsRow B' e k v n xs := by
  obtain ⟨h1, h2⟩ := h
  refine ⟨h1, ?_⟩
  rcases h2 with h2 | ⟨g, cap, cur, hv, hbg, r⟩
  · exact .inl h2
  · exact .inr ⟨g, cap, cur, hv, by omega, r⟩
theorem pathL_le (sm : List UInt8 → List UInt8) : ∀ (l : List (List UInt8)) (i : Nat) {m : Nat}, l.length ≤ m → (pathL sm l i).length ≤ m := by
  have h : ∀ (n : Nat) (l : List (List UInt8)) (i : Nat), l.length = n → (pathL sm l i).length ≤ l.length := by
    intro n
    induction n using Nat.strongRecOn with
    | _ n ih =>
      intro l i hn
      by_cases h1 : l.length ≤ 1
      · rw [pathL_one sm l i h1]; simp
      · have hlt := hf_lt l.length (by omega)
        have hps := hf_pos l.length
        by_cases hk : i < hf l.length
        · rw [pathL_left sm l i (by omega) hk, List.length_append]
          have := ih (l.take (hf l.length)).length (by rw [List.length_take]; omega) (l.take (hf l.length)) i rfl
          rw [List.length_take] at this
          simp only [List.length_cons, List.length_nil]; omega
        · rw [pathL_right sm l i (by omega) hk, List.length_append]
          have := ih (l.drop (hf l.length)).length (by rw [List.length_drop]; omega) (l.drop (hf l.length)) (i - hf l.length) rfl
          rw [List.length_drop] at this
          simp only [List.length_cons, List.length_nil]; omega
  intro l i m hm
  exact Nat.le_trans (h l.length l i rfl) hm
set_option maxHeartbeats 400000 in
theorem rpath_big (ss : List (List UInt8)) (v : Value) (i : Int) (w : World) (hT : IsTxt w v ss) (hb : 4096 < ss.length) :
    Calls Tryd.prog 17 #[v, .int .i64 i] w fun e w' => e = .returned (.tuple #[.slice none 0 0, .int .i64 4]) ∧ Below w.heap.size w w' := by
  obtain ⟨a, cap, rfl, h1, h2, h3⟩ := hT.len
  have i0 : (4096 : Int) < (ss.length : Int) := by omega
  clear hT
  go_enter Tryd.func17, Tryd.ntmps17
  go_wp2_with fail
  go_ret2
  exact ⟨rfl, Below.refl _ _⟩
set_option maxHeartbeats 400000 in
theorem rpath_bad (ss : List (List UInt8)) (v : Value) (i : Int) (w : World) (hT : IsTxt w v ss) (hb : ss.length ≤ 4096) (hi : i < 0 ∨ (ss.length : Int) ≤ i) :
    Calls Tryd.prog 17 #[v, .int .i64 i] w fun e w' => e = .returned (.tuple #[.slice none 0 0, .int .i64 1]) ∧ Below w.heap.size w w' := by
  obtain ⟨a, cap, rfl, h1, h2, h3⟩ := hT.len
  have i0 : ¬ (4096 : Int) < (ss.length : Int) := by omega
  clear hT
  by_cases hn : i < 0
  · go_enter Tryd.func17, Tryd.ntmps17
    go_wp2_with fail
    go_ret2
    exact ⟨rfl, Below.refl _ _⟩
  · have i1 : (ss.length : Int) ≤ i := by omega
    go_enter Tryd.func17, Tryd.ntmps17
    go_wp2_with fail
    go_ret2
    exact ⟨rfl, Below.refl _ _⟩
set_option maxRecDepth 100000 in
set_option maxHeartbeats 2000000 in
theorem rpath_any : ∀ (m : Nat) (ss : List (List UInt8)) (v : Value) (w : World) (i : Nat), ss.length = m → m ≤ 4096 → i < m → IsTxt w v ss →
    Calls Tryd.prog 17 #[v, .int .i64 i] w fun e w' => ∃ p, e = .returned (.tuple #[p, .int .i64 0]) ∧ w'.ownsRow w.heap.size 9 1 p (pathL sumL ss i).length (strV (pathL sumL ss i)) ∧ Below w.heap.size w w' := by
  obtain ⟨i0, hi, hz0, hz1, hz2⟩ := info_parts str_info
  intro m
  induction m using Nat.strongRecOn with
  | _ m ih =>
    intro ss v w i hm hb him hT
    obtain ⟨b, off, cap, rfl, hblt, hc1, hc2, hn, HC⟩ := hT.at (by omega)
    have i2 : ¬ (4096 : Int) < (ss.length : Int) := by omega
    have i3 : ¬ (ss.length : Int) ≤ (i : Int) := by omega
    have i6 : ¬ (i : Int) < 0 := by omega
    by_cases h1 : ss.length = 1
    · have HE : Hid (pathL sumL ss i = []) := pathL_one sumL ss i (by omega)
      rw [h1] at i2 i3
      rw [h1]
      clear ih hT HC
      go_enter Tryd.func17, Tryd.ntmps17
      go_wp2_with fail
      go_ret2
      refine ⟨_, rfl, ?_, Below.refl _ _⟩
      rw [HE.out]
      exact World.ownsRow_nil _ _ _ _
    · have hlt := hf_lt ss.length (by omega)
      have hps := hf_pos ss.length
      have T1 := hT.take (hf ss.length) (by omega) (by omega)
      have T2 := hT.drop (hf ss.length) (by omega) (by omega)
      have hH := fun w1 => rhalf_any ss.length (by omega) w1
      obtain ⟨k, hk⟩ : ∃ k, hf ss.length = k := ⟨_, rfl⟩
      rw [hk] at hlt hps T1 T2 hH
      have hnn : ss.length = m := hm
      rw [hnn] at hk
      simp only [hnn] at hlt h1 hc1 hn hH T1 T2 i2 i3 ⊢
      have i1 : ((m : Int) == 1) = false := by simp; omega
      have j2 : (k : Int) ≤ (cap : Int) := by omega
      have j3 : (k : Int) ≤ (m : Int) := by omega
      have j4 : ¬ cap = k := by omega
      by_cases hik : i < k
      · have I := fun w1 h => ih k (by omega) (ss.take k) (.slice (some ⟨b, off, none⟩) k cap) w1 i (by rw [List.length_take]; omega) (by omega) (by omega) h
        have hC := fun w1 h => rcrown_any (ss.drop k) (.slice (some ⟨b, off + k, none⟩) (m - k) (cap - k)) w1 h
        have HE : Hid (pathL sumL ss i = pathL sumL (ss.take k) i ++ [crownL sumL (ss.drop k)]) := by
          have := pathL_left sumL ss i (by omega) (by rw [hnn, hk]; omega)
          rw [hnn, hk] at this
          exact this
        have lc := crownL_le sumL sumL_len (ss.drop k)
        obtain ⟨p, hp⟩ : ∃ p, pathL sumL (ss.take k) i = p := ⟨_, rfl⟩
        obtain ⟨c, hc⟩ : ∃ c, crownL sumL (ss.drop k) = c := ⟨_, rfl⟩
        rw [hp, hc] at HE
        rw [hp] at I
        rw [hc] at hC lc
        have lp : p.length ≤ 4096 := by rw [← hp]; exact pathL_le sumL _ _ (by rw [List.length_take]; omega)
        clear hp hc hnn hk ih hT HC hm
        have i5 : (i : Int) < (k : Int) := by omega
        go_enter Tryd.func17, Tryd.ntmps17
        go_wp2_with fail
        refine (hH w).mono ?_
        rintro e w1 ⟨rfl, hb1⟩
        go_wp2_with fail
        refine (I w1 (T1.below hb1)).mono ?_
        rintro e w2 ⟨q, rfl, hq, hb2⟩
        have hbw2 := bel_trans hb1 hb2
        have hs2 := hbw2.size
        go_wp2_with fail
        refine (hC w2 (T2.below hbw2)).mono ?_
        rintro e w3 ⟨rfl, hb3⟩
        have hbw3 := bel_trans hbw2 hb3
        have hs3 := hbw3.size
        have hown3 : w3.ownsRow w.heap.size 9 1 q p.length (strV p) := owns_mono (owns_below hq hb3) hb1.size
        clear hq I hC hH T1 T2
        go_wp2_with (at_builtin; refine wpList_append_own _ rfl _ _ 22 rfl w.heap.size 9 i0 (.string ByteArray.empty) 1 16 Tryd.underlying22 hi hz0 hz1 hz2 rfl (by decide) _ _ _ rfl (hown3.alloc _) ⟨w3.heap.size, 0, none⟩ 1 1 [.string ⟨c.toArray⟩] rfl rfl ?d1 ?d2 ?d3 ?d4 ?d5 ?_)
        case d1 =>
          intro j u hj
          match j, hj with
          | 0, hj => simp at hj; subst hj; simp [Addr.add]
        case d2 => intro u hu; simp at hu; subst hu; rfl
        case d3 => unfold maxLen; omega
        case d4 => omega
        case d5 => simp; omega
        intro v' w4 hown4 hgrow4 _
        have hbw4 : Below w.heap.size w w4 := (hbw3.alloc hs3 _).grown hgrow4 (by simp; omega) (fun j hj => (hown3.lt j hj).1)
        have HO : w4.ownsRow w.heap.size 9 1 v' (pathL sumL ss i).length (strV (pathL sumL ss i)) := by
          rw [HE.out, strV_snoc, List.length_append]
          exact hown4
        go_wp2_with fail
        go_ret2
        exact ⟨_, rfl, HO, hbw4⟩
      · have z1 : IntKind.i64.wrap ((i : Int) - (k : Int)) = (i : Int) - (k : Int) := by rw [IntKind.wrap_i64]; omega
        have I := fun w1 h => ih (m - k) (by omega) (ss.drop k) (.slice (some ⟨b, off + k, none⟩) (m - k) (cap - k)) w1 (i - k) (by rw [List.length_drop]; omega) (by omega) (by omega) h
        have hC := fun w1 h => rcrown_any (ss.take k) (.slice (some ⟨b, off, none⟩) k cap) w1 h
        have HE : Hid (pathL sumL ss i = pathL sumL (ss.drop k) (i - k) ++ [crownL sumL (ss.take k)]) := by
          have := pathL_right sumL ss i (by omega) (by rw [hnn, hk]; omega)
          rw [hnn, hk] at this
          exact this
        have lc := crownL_le sumL sumL_len (ss.take k)
        obtain ⟨p, hp⟩ : ∃ p, pathL sumL (ss.drop k) (i - k) = p := ⟨_, rfl⟩
        obtain ⟨c, hc⟩ : ∃ c, crownL sumL (ss.take k) = c := ⟨_, rfl⟩
        rw [hp, hc] at HE
        rw [hp] at I
        rw [hc] at hC lc
        have lp : p.length ≤ 4096 := by rw [← hp]; exact pathL_le sumL _ _ (by rw [List.length_drop]; omega)
        rw [show (((i - k : Nat)) : Int) = (i : Int) - (k : Int) by omega] at I
        clear hp hc hnn hk ih hT HC hm
        have i5 : ¬ (i : Int) < (k : Int) := by omega
        go_enter Tryd.func17, Tryd.ntmps17
        go_wp2_with fail
        refine (hH w).mono ?_
        rintro e w1 ⟨rfl, hb1⟩
        go_wp2_with fail
        refine (I w1 (T2.below hb1)).mono ?_
        rintro e w2 ⟨q, rfl, hq, hb2⟩
        have hbw2 := bel_trans hb1 hb2
        have hs2 := hbw2.size
        go_wp2_with fail
        refine (hC w2 (T1.below hbw2)).mono ?_
        rintro e w3 ⟨rfl, hb3⟩
        have hbw3 := bel_trans hbw2 hb3
        have hs3 := hbw3.size
        have hown3 : w3.ownsRow w.heap.size 9 1 q p.length (strV p) := owns_mono (owns_below hq hb3) hb1.size
        clear hq I hC hH T1 T2
        go_wp2_with (at_builtin; refine wpList_append_own _ rfl _ _ 22 rfl w.heap.size 9 i0 (.string ByteArray.empty) 1 16 Tryd.underlying22 hi hz0 hz1 hz2 rfl (by decide) _ _ _ rfl (hown3.alloc _) ⟨w3.heap.size, 0, none⟩ 1 1 [.string ⟨c.toArray⟩] rfl rfl ?d1 ?d2 ?d3 ?d4 ?d5 ?_)
        case d1 =>
          intro j u hj
          match j, hj with
          | 0, hj => simp at hj; subst hj; simp [Addr.add]
        case d2 => intro u hu; simp at hu; subst hu; rfl
        case d3 => unfold maxLen; omega
        case d4 => omega
        case d5 => simp; omega
        intro v' w4 hown4 hgrow4 _
        have hbw4 : Below w.heap.size w w4 := (hbw3.alloc hs3 _).grown hgrow4 (by simp; omega) (fun j hj => (hown3.lt j hj).1)
        have HO : w4.ownsRow w.heap.size 9 1 v' (pathL sumL ss i).length (strV (pathL sumL ss i)) := by
          rw [HE.out, strV_snoc, List.length_append]
          exact hown4
        go_wp2_with fail
        go_ret2
        exact ⟨_, rfl, HO, hbw4⟩
end Go.Proofs.YtlkkdfopecbekaaDoor
namespace Go.Proofs.YtlkkdfopecbekaaDoor
set_option maxRecDepth 100000
open Go.RowKit
set_option linter.unusedVariables false
attribute [local go_sem] ba_size
/-- What inputs leaves: none, or the row of the inputs. -/
def InRes (w : World) (O : Option (List (List UInt8))) (e : Ending) (w' : World) : Prop := ∃ r ok, e = .returned (.tuple #[r, .bool ok]) ∧ Below w.heap.size w w' ∧ ((O = none ∧ ok = false) ∨ (∃ L, O = some L ∧ ok = true ∧ w'.ownsRow w.heap.size 9 1 r L.length (strV L)))
set_option maxRecDepth 100000 in
set_option maxHeartbeats 4000000 in
theorem rin_any : ∀ (m n i : Nat) (s : List UInt8) (p : List (List UInt8)) (v : Value) (w : World), n = m → 1 ≤ n → n ≤ 4096 → i < n → s.length ≤ 1125899906842500 → (∀ x ∈ p, x.length = 32) → IsTxt w v p →
    Calls Tryd.prog 45 #[.int .i64 n, .int .i64 i, .string ⟨s.toArray⟩, v] w fun e w' => InRes w (inL sumL n i s p) e w' := by
  obtain ⟨i0, hi, hz0, hz1, hz2⟩ := info_parts str_info
  intro m
  induction m using Nat.strongRecOn with
  | _ m ih =>
    intro n i s p v w hnm h1n hn4 hin hs hp32 hT
    subst hnm
    have j0 : ¬ (i : Int) < 0 := by omega
    by_cases h1 : n = 1
    · subst h1
      obtain ⟨a, cap, rfl, h1, h2, h3⟩ := hT.len
      have hE := inL_one sumL 1 i s p (by omega)
      have hL := fun w1 => rleafIn_any s (by omega) w1
      have hok : ((p.length : Int) == 0) = decide (p.length = 0) := by
        by_cases h : p.length = 0
        · rw [h]; rfl
        · rw [decide_eq_false h, beq_eq_false_iff_ne]; omega
      have HE : Hid (inL sumL 1 i s p = if p.length = 0 then some [leafI s] else none) := hE
      clear hE ih hT hp32
      obtain ⟨q, hq⟩ : ∃ q, p.length = q := ⟨_, rfl⟩
      simp only [hq] at *
      clear hq
      go_enter Tryd.func45, Tryd.ntmps45
      go_wp2_with fail
      refine (hL w).mono ?_
      rintro e w1 ⟨rfl, hb1⟩
      go_wp2_with fail
      go_ret2
      refine ⟨_, _, rfl, hb1.alloc hb1.size _, ?_⟩
      by_cases h : q = 0
      · right
        have e1 := HE.out
        rw [if_pos h] at e1
        refine ⟨_, e1, by simp [h], ⟨rfl, .inr ⟨w1.heap.size, 1, _, rfl, hb1.size, heap_alloc_new w1 _, by simp, by decide, rfl, rfl⟩⟩⟩
      · left
        have e1 := HE.out
        rw [if_neg h] at e1
        exact ⟨e1, by simp [h]⟩
    · have i1 : ((n : Int) == 1) = false := by rw [beq_eq_false_iff_ne]; omega
      by_cases hp0 : p.length = 0
      · obtain ⟨a, cap, rfl, h1', h2, h3⟩ := hT.len
        have HE : Hid (inL sumL n i s p = none) := inL_none sumL n i s p (by omega) hp0
        rw [hp0]
        clear ih hT hp32
        go_enter Tryd.func45, Tryd.ntmps45
        go_wp2_with fail
        go_ret2
        refine ⟨.slice none 0 0, false, ?_, Below.refl _ _, Or.inl ⟨HE.out, rfl⟩⟩
        rfl
      · have hq0 : 0 < p.length := by omega
        have hbd := hT.bound
        obtain ⟨b, off, cap, rfl, hblt, hc1, hc2, hn, HC⟩ := hT.at hq0
        have hlt := hf_lt n (by omega)
        have hps := hf_pos n
        have T1 := hT.take (p.length - 1) (by omega) hq0
        have hH := fun w1 => rhalf_any n (by omega) w1
        have hlast := last_get p hq0
        have hlm := hp32 _ (last_mem p hq0)
        have c0 : w.cell? ⟨b, off + (p.length - 1), none⟩ = some (.string ⟨(p.getLastD []).toArray⟩) := by rw [hlast]; exact HC.out (p.length - 1) (by omega)
        have hdl : p.dropLast = p.take (p.length - 1) := List.dropLast_eq_take
        clear hlast
        obtain ⟨last, hlast⟩ : ∃ last, p.getLastD [] = last := ⟨_, rfl⟩
        rw [hlast] at c0 hlm
        obtain ⟨k, hk⟩ : ∃ k, hf n = k := ⟨_, rfl⟩
        rw [hk] at hlt hps hH
        by_cases hik : i < k
        · have I := fun w1 h => ih k (by omega) k i s (p.take (p.length - 1)) (.slice (some ⟨b, off, none⟩) (p.length - 1) cap) w1 rfl (by omega) (by omega) (by omega) hs (fun x hx => hp32 x (List.mem_of_mem_take hx)) h
          have hE := inL_left sumL n i s p (by omega) (by omega) (by rw [hk]; exact hik)
          rw [hk, hdl, hlast] at hE
          have HE : Hid (inL sumL n i s p = Option.map (fun l => l ++ [nodeI (sumL (l.getLastD [])) last]) (inL sumL k i s (p.take (p.length - 1)))) := hE
          clear hE
          have hF := fun L h => inL_facts sumL sumL_len k k i s (p.take (p.length - 1)) L rfl (by omega) (fun x hx => hp32 x (List.mem_of_mem_take hx)) h
          obtain ⟨O, hO⟩ : ∃ O, inL sumL k i s (p.take (p.length - 1)) = O := ⟨_, rfl⟩
          rw [hO] at HE I hF
          obtain ⟨q, hq⟩ : ∃ q, p.length = q := ⟨_, rfl⟩
          obtain ⟨p', hp'⟩ : ∃ p', p.take (p.length - 1) = p' := ⟨_, rfl⟩
          rw [hp'] at T1 I
          simp only [hq] at T1 I hq0 hc1 hn4 c0 ⊢
          clear hO ih hT HC hlast hdl hp32 hp' hq hk hbd
          have i5 : (i : Int) < (k : Int) := by omega
          have y0 : ((q : Int) == 0) = false := by rw [beq_eq_false_iff_ne]; omega
          have y1 : IntKind.i64.wrap ((q : Int) - 1) = (q : Int) - 1 := by rw [IntKind.wrap_i64]; omega
          have y2 : ((q : Int) - 1).toNat = q - 1 := by omega
          have y3 : (0 : Int) ≤ (q : Int) - 1 := by omega
          have y4 : (q : Int) - 1 < (q : Int) := by omega
          have y5 : (q : Int) - 1 ≤ (cap : Int) := by omega
          go_enter Tryd.func45, Tryd.ntmps45
          go_wp2_with fail
          refine (hH w).mono ?_
          rintro e w1 ⟨rfl, hb1⟩
          have c1 : w1.cell? ⟨b, off + (q - 1), none⟩ = some (.string ⟨last.toArray⟩) := (hb1.cell (p := ⟨b, off + (q - 1), none⟩) hblt).trans c0
          go_wp2_with fail
          refine (I w1 (T1.below hb1)).mono ?_
          rintro e w2 ⟨r, ok, rfl, hb2, hres⟩
          have hbw2 := bel_trans hb1 hb2
          have hs2 := hbw2.size
          rcases hres with ⟨hO, rfl⟩ | ⟨L, hO, rfl, hown⟩
          · have HN : Hid (inL sumL n i s p = none) := by have := HE.out; rw [hO] at this; exact this
            go_wp2_with fail
            go_ret2
            exact ⟨_, _, rfl, hbw2, Or.inl ⟨HN.out, rfl⟩⟩
          · obtain ⟨f1, f2, f3⟩ := hF L hO
            have hLl := f3 _ (last_mem L f2)
            have hLe := last_get L f2
            have hX := IsTxt.own hown (by omega) (fun t ht => by have := f3 t ht; omega)
            obtain ⟨g, goff, gcap, rfl, hglt, gc1, gc2, gn, GC⟩ := hX.at f2
            have c2 : w2.cell? ⟨g, goff + (L.length - 1), none⟩ = some (.string ⟨(L.getLastD []).toArray⟩) := by rw [hLe]; exact GC.out (L.length - 1) (by omega)
            have HN : Hid (inL sumL n i s p = some (L ++ [nodeI (sumL (L.getLastD [])) last])) := by have := HE.out; rw [hO] at this; exact this
            have hS := fun w1 => rsumL_any (L.getLastD []) (by omega) w1
            have lx := sumL_len (L.getLastD [])
            obtain ⟨u, hu⟩ : ∃ u, L.getLastD [] = u := ⟨_, rfl⟩
            rw [hu] at c2 HN hS lx
            obtain ⟨x, hx⟩ : ∃ x, sumL u = x := ⟨_, rfl⟩
            rw [hx] at HN hS lx
            have hNd := fun w1 => rnodeIn_any x last (by omega) (by omega) w1
            obtain ⟨N, hNN⟩ : ∃ N, nodeI x last = N := ⟨_, rfl⟩
            rw [hNN] at hNd HN
            obtain ⟨d, hd⟩ : ∃ d, L.length = d := ⟨_, rfl⟩
            have own2 := hown
            simp only [hd] at own2 c2 f1 f2 gc1 gn ⊢
            clear hu hx hNN hX GC hLe hLl f3 I hH T1 hF hO hown
            have v0 : IntKind.i64.wrap ((d : Int) - 1) = (d : Int) - 1 := by rw [IntKind.wrap_i64]; omega
            have v1 : ((d : Int) - 1).toNat = d - 1 := by omega
            have v2 : (0 : Int) ≤ (d : Int) - 1 := by omega
            have v3 : (d : Int) - 1 < (d : Int) := by omega
            go_wp2_with fail
            refine (hS w2).mono ?_
            rintro e w3 ⟨rfl, hb3⟩
            go_wp2_with fail
            refine (hNd w3).mono ?_
            rintro e w4 ⟨rfl, hb4⟩
            have hbw4 := bel_trans (bel_trans hbw2 hb3) hb4
            have hs4 := hbw4.size
            have own4 : w4.ownsRow w.heap.size 9 1 (.slice (some ⟨g, goff, none⟩) d gcap) d (strV L) := owns_mono (owns_below (owns_below own2 hb3) hb4) hb1.size
            go_wp2_with (at_builtin; refine wpList_append_own _ rfl _ _ 22 rfl w.heap.size 9 i0 (.string ByteArray.empty) 1 16 Tryd.underlying22 hi hz0 hz1 hz2 rfl (by decide) _ _ _ rfl (own4.alloc _) ⟨w4.heap.size, 0, none⟩ 1 1 [.string ⟨N.toArray⟩] rfl rfl ?d1 ?d2 ?d3 ?d4 ?d5 ?_)
            case d1 =>
              intro j u hj
              match j, hj with
              | 0, hj => simp at hj; subst hj; simp [Addr.add]
            case d2 => intro u hu; simp at hu; subst hu; rfl
            case d3 => unfold maxLen; omega
            case d4 => omega
            case d5 => simp; omega
            intro v' w5 own5 grow5 _
            have hbw5 : Below w.heap.size w w5 := (hbw4.alloc hs4 _).grown grow5 (by simp; omega) (fun j hj => (own4.lt j hj).1)
            have HO5 : w5.ownsRow w.heap.size 9 1 v' (L ++ [N]).length (strV (L ++ [N])) := by
              rw [strV_snoc, List.length_append, hd]
              exact own5
            go_wp2_with fail
            go_ret2
            exact ⟨_, _, rfl, hbw5, Or.inr ⟨_, HN.out, rfl, HO5⟩⟩
        · have I := fun w1 h => ih (n - k) (by omega) (n - k) (i - k) s (p.take (p.length - 1)) (.slice (some ⟨b, off, none⟩) (p.length - 1) cap) w1 rfl (by omega) (by omega) (by omega) hs (fun x hx => hp32 x (List.mem_of_mem_take hx)) h
          have hE := inL_right sumL n i s p (by omega) (by omega) (by rw [hk]; exact hik)
          rw [hk, hdl, hlast] at hE
          have HE : Hid (inL sumL n i s p = Option.map (fun l => l ++ [nodeI last (sumL (l.getLastD []))]) (inL sumL (n - k) (i - k) s (p.take (p.length - 1)))) := hE
          clear hE
          have hF := fun L h => inL_facts sumL sumL_len (n - k) (n - k) (i - k) s (p.take (p.length - 1)) L rfl (by omega) (fun x hx => hp32 x (List.mem_of_mem_take hx)) h
          rw [show (((i - k : Nat)) : Int) = (i : Int) - (k : Int) by omega, show (((n - k : Nat)) : Int) = (n : Int) - (k : Int) by omega] at I
          obtain ⟨O, hO⟩ : ∃ O, inL sumL (n - k) (i - k) s (p.take (p.length - 1)) = O := ⟨_, rfl⟩
          rw [hO] at HE I hF
          obtain ⟨q, hq⟩ : ∃ q, p.length = q := ⟨_, rfl⟩
          obtain ⟨p', hp'⟩ : ∃ p', p.take (p.length - 1) = p' := ⟨_, rfl⟩
          rw [hp'] at T1 I
          simp only [hq] at T1 I hq0 hc1 hn4 c0 ⊢
          clear hO ih hT HC hlast hdl hp32 hp' hq hk hbd
          have i5 : ¬ (i : Int) < (k : Int) := by omega
          have y0 : ((q : Int) == 0) = false := by rw [beq_eq_false_iff_ne]; omega
          have y1 : IntKind.i64.wrap ((q : Int) - 1) = (q : Int) - 1 := by rw [IntKind.wrap_i64]; omega
          have y2 : ((q : Int) - 1).toNat = q - 1 := by omega
          have y3 : (0 : Int) ≤ (q : Int) - 1 := by omega
          have y4 : (q : Int) - 1 < (q : Int) := by omega
          have y5 : (q : Int) - 1 ≤ (cap : Int) := by omega
          have z1 : IntKind.i64.wrap ((i : Int) - (k : Int)) = (i : Int) - (k : Int) := by rw [IntKind.wrap_i64]; omega
          have z2 : IntKind.i64.wrap ((n : Int) - (k : Int)) = (n : Int) - (k : Int) := by rw [IntKind.wrap_i64]; omega
          go_enter Tryd.func45, Tryd.ntmps45
          go_wp2_with fail
          refine (hH w).mono ?_
          rintro e w1 ⟨rfl, hb1⟩
          have c1 : w1.cell? ⟨b, off + (q - 1), none⟩ = some (.string ⟨last.toArray⟩) := (hb1.cell (p := ⟨b, off + (q - 1), none⟩) hblt).trans c0
          go_wp2_with fail
          refine (I w1 (T1.below hb1)).mono ?_
          rintro e w2 ⟨r, ok, rfl, hb2, hres⟩
          have hbw2 := bel_trans hb1 hb2
          have hs2 := hbw2.size
          rcases hres with ⟨hO, rfl⟩ | ⟨L, hO, rfl, hown⟩
          · have HN : Hid (inL sumL n i s p = none) := by have := HE.out; rw [hO] at this; exact this
            go_wp2_with fail
            go_ret2
            exact ⟨_, _, rfl, hbw2, Or.inl ⟨HN.out, rfl⟩⟩
          · obtain ⟨f1, f2, f3⟩ := hF L hO
            have hLl := f3 _ (last_mem L f2)
            have hLe := last_get L f2
            have hX := IsTxt.own hown (by omega) (fun t ht => by have := f3 t ht; omega)
            obtain ⟨g, goff, gcap, rfl, hglt, gc1, gc2, gn, GC⟩ := hX.at f2
            have c2 : w2.cell? ⟨g, goff + (L.length - 1), none⟩ = some (.string ⟨(L.getLastD []).toArray⟩) := by rw [hLe]; exact GC.out (L.length - 1) (by omega)
            have HN : Hid (inL sumL n i s p = some (L ++ [nodeI last (sumL (L.getLastD []))])) := by have := HE.out; rw [hO] at this; exact this
            have hS := fun w1 => rsumL_any (L.getLastD []) (by omega) w1
            have lx := sumL_len (L.getLastD [])
            obtain ⟨u, hu⟩ : ∃ u, L.getLastD [] = u := ⟨_, rfl⟩
            rw [hu] at c2 HN hS lx
            obtain ⟨x, hx⟩ : ∃ x, sumL u = x := ⟨_, rfl⟩
            rw [hx] at HN hS lx
            have hNd := fun w1 => rnodeIn_any last x (by omega) (by omega) w1
            obtain ⟨N, hNN⟩ : ∃ N, nodeI last x = N := ⟨_, rfl⟩
            rw [hNN] at hNd HN
            obtain ⟨d, hd⟩ : ∃ d, L.length = d := ⟨_, rfl⟩
            have own2 := hown
            simp only [hd] at own2 c2 f1 f2 gc1 gn ⊢
            clear hu hx hNN hX GC hLe hLl f3 I hH T1 hF hO hown
            have v0 : IntKind.i64.wrap ((d : Int) - 1) = (d : Int) - 1 := by rw [IntKind.wrap_i64]; omega
            have v1 : ((d : Int) - 1).toNat = d - 1 := by omega
            have v2 : (0 : Int) ≤ (d : Int) - 1 := by omega
            have v3 : (d : Int) - 1 < (d : Int) := by omega
            go_wp2_with fail
            refine (hS w2).mono ?_
            rintro e w3 ⟨rfl, hb3⟩
            go_wp2_with fail
            refine (hNd w3).mono ?_
            rintro e w4 ⟨rfl, hb4⟩
            have hbw4 := bel_trans (bel_trans hbw2 hb3) hb4
            have hs4 := hbw4.size
            have own4 : w4.ownsRow w.heap.size 9 1 (.slice (some ⟨g, goff, none⟩) d gcap) d (strV L) := owns_mono (owns_below (owns_below own2 hb3) hb4) hb1.size
            go_wp2_with (at_builtin; refine wpList_append_own _ rfl _ _ 22 rfl w.heap.size 9 i0 (.string ByteArray.empty) 1 16 Tryd.underlying22 hi hz0 hz1 hz2 rfl (by decide) _ _ _ rfl (own4.alloc _) ⟨w4.heap.size, 0, none⟩ 1 1 [.string ⟨N.toArray⟩] rfl rfl ?d1 ?d2 ?d3 ?d4 ?d5 ?_)
            case d1 =>
              intro j u hj
              match j, hj with
              | 0, hj => simp at hj; subst hj; simp [Addr.add]
            case d2 => intro u hu; simp at hu; subst hu; rfl
            case d3 => unfold maxLen; omega
            case d4 => omega
            case d5 => simp; omega
            intro v' w5 own5 grow5 _
            have hbw5 : Below w.heap.size w w5 := (hbw4.alloc hs4 _).grown grow5 (by simp; omega) (fun j hj => (own4.lt j hj).1)
            have HO5 : w5.ownsRow w.heap.size 9 1 v' (L ++ [N]).length (strV (L ++ [N])) := by
              rw [strV_snoc, List.length_append, hd]
              exact own5
            go_wp2_with fail
            go_ret2
            exact ⟨_, _, rfl, hbw5, Or.inr ⟨_, HN.out, rfl, HO5⟩⟩
end Go.Proofs.YtlkkdfopecbekaaDoor
namespace Go.Proofs.YtlkkdfopecbekaaDoor
set_option maxRecDepth 100000
open Go.RowKit
set_option linter.unusedVariables false
attribute [local go_sem] ba_size
theorem climbL_arg (sm : List UInt8 → List UInt8) (n i : Int) (s : List UInt8) (p : List (List UInt8)) (h : n < 1 ∨ 4096 < n ∨ i < 0 ∨ n ≤ i) : climbL sm n i s p = ([], 1) := by unfold climbL; rw [if_pos h]
theorem climbL_32 (sm : List UInt8 → List UInt8) (n i : Int) (s : List UInt8) (p : List (List UInt8)) (h : ¬ (n < 1 ∨ 4096 < n ∨ i < 0 ∨ n ≤ i)) (k : Nat) (hk : k < p.length) (h32 : p[k].length ≠ 32) : climbL sm n i s p = ([], 14) := by
  unfold climbL; rw [if_neg h, if_pos ⟨p[k], List.getElem_mem hk, h32⟩]
def clEnd (sm : List UInt8 → List UInt8) (n : Nat) : Option (List (List UInt8)) → List (List UInt8) × Nat
  | none => ([], 14)
  | some l => (l ++ [rootI n (sm (l.getLastD []))], 0)
theorem climbL_in (sm : List UInt8 → List UInt8) (n i : Int) (s : List UInt8) (p : List (List UInt8)) (h : ¬ (n < 1 ∨ 4096 < n ∨ i < 0 ∨ n ≤ i)) (h32 : ∀ x ∈ p, x.length = 32) : climbL sm n i s p = clEnd sm n.toNat (inL sm n.toNat i.toNat s p) := by
  unfold climbL; rw [if_neg h, if_neg (fun ⟨x, hx, hn⟩ => hn (h32 x hx))]
  cases inL sm n.toNat i.toNat s p <;> rfl
set_option maxHeartbeats 1000000 in
theorem rclimb_arg (n i : Int) (s : List UInt8) (p : List (List UInt8)) (v : Value) (w : World) (hT : IsTxt w v p) (h : n < 1 ∨ 4096 < n ∨ i < 0 ∨ n ≤ i) :
    Calls Tryd.prog 24 #[.int .i64 n, .int .i64 i, .string ⟨s.toArray⟩, v] w fun e w' => ClRes w (climbL sumL n i s p) e w' := by
  rw [climbL_arg sumL n i s p h]
  obtain ⟨a, cap, rfl, h1, h2, h3⟩ := hT.len
  clear hT
  by_cases c1 : n < 1
  · go_enter Tryd.func24, Tryd.ntmps24
    go_wp2_with fail
    go_ret2
    exact ⟨_, rfl, Below.refl _ _, World.ownsRow_nil _ _ _ _⟩
  · by_cases c2 : 4096 < n
    · go_enter Tryd.func24, Tryd.ntmps24
      go_wp2_with fail
      go_ret2
      exact ⟨_, rfl, Below.refl _ _, World.ownsRow_nil _ _ _ _⟩
    · by_cases c3 : i < 0
      · go_enter Tryd.func24, Tryd.ntmps24
        go_wp2_with fail
        go_ret2
        exact ⟨_, rfl, Below.refl _ _, World.ownsRow_nil _ _ _ _⟩
      · have c4 : n ≤ i := by omega
        go_enter Tryd.func24, Tryd.ntmps24
        go_wp2_with fail
        go_ret2
        exact ⟨_, rfl, Below.refl _ _, World.ownsRow_nil _ _ _ _⟩
set_option maxRecDepth 100000 in
set_option maxHeartbeats 2000000 in
theorem rclimb_any (n i : Int) (s : List UInt8) (hs : s.length ≤ 1125899906842500) (p : List (List UInt8)) (v : Value) (w : World) (hT : IsTxt w v p) :
    Calls Tryd.prog 24 #[.int .i64 n, .int .i64 i, .string ⟨s.toArray⟩, v] w fun e w' => ClRes w (climbL sumL n i s p) e w' := by
  by_cases hA : n < 1 ∨ 4096 < n ∨ i < 0 ∨ n ≤ i
  · exact rclimb_arg n i s p v w hT hA
  · obtain ⟨i0, hi, hz0, hz1, hz2⟩ := info_parts str_info
    have hin := climbL_in sumL n i s p hA
    have h32 := climbL_32 sumL n i s p hA
    obtain ⟨N, rfl⟩ : ∃ N : Nat, n = N := ⟨n.toNat, by omega⟩
    obtain ⟨I, rfl⟩ : ∃ I : Nat, i = I := ⟨i.toNat, by omega⟩
    simp only [Int.toNat_natCast] at hin
    have c1 : ¬ (N : Int) < 1 := by omega
    have c2 : ¬ (4096 : Int) < (N : Int) := by omega
    have c3 : ¬ (I : Int) < 0 := by omega
    have c4 : ¬ (N : Int) ≤ (I : Int) := by omega
    have hIn := fun h w1 hh => rin_any N N I s p v w1 rfl (by omega) (by omega) (by omega) hs h hh
    have hF := fun L h32 h => inL_facts sumL sumL_len N N I s p L rfl (by omega) h32 h
    obtain ⟨C, hC⟩ : ∃ C, climbL sumL N I s p = C := ⟨_, rfl⟩
    rw [hC] at hin h32 ⊢
    have HIN : Hid ((∀ x ∈ p, x.length = 32) → C = clEnd sumL N (inL sumL N I s p)) := hin
    have H32 : Hid (∀ (k : Nat) (hk : k < p.length), p[k].length ≠ 32 → C = ([], 14)) := h32
    obtain ⟨O, hO⟩ : ∃ O, inL sumL N I s p = O := ⟨_, rfl⟩
    rw [hO] at hIn hF HIN
    clear hin h32 hC hO hA
    have hT0 := hT
    obtain ⟨a, cap, rfl, h1, h2, h3, HC⟩ := hT.some_at
    have HT : Hid (IsTxt w (.slice a p.length cap) p) := hT0
    have HI : Hid ((∀ x ∈ p, x.length = 32) → ∀ w1, IsTxt w1 (.slice a p.length cap) p → Calls Tryd.prog 45 #[.int .i64 N, .int .i64 I, .string ⟨s.toArray⟩, .slice a p.length cap] w1 fun e w' => InRes w1 O e w') := hIn
    have HF : Hid (∀ L, (∀ x ∈ p, x.length = 32) → O = some L → L.length ≤ N ∧ 0 < L.length ∧ ∀ t ∈ L, t.length ≤ s.length + 65) := hF
    clear hT hT0 hIn hF
    go_enter Tryd.func24, Tryd.ntmps24
    go_wp2_with fail
    go_loop [10] (fun j => ∃ k : Nat, k ≤ p.length ∧ j = .int .i64 k ∧ Hid (∀ x ∈ p.take k, x.length = 32)) (fun j => p.length - (intOf j).toNat)
    case atStart => exact ⟨0, Nat.zero_le _, rfl, fun x hx => by simp at hx⟩
    case round =>
      obtain ⟨k, hk, rfl, HA⟩ := hrel
      by_cases hlt : k < p.length
      · have j0 : (k : Int) < (p.length : Int) := by omega
        obtain ⟨b, off, rfl, hblt, c0⟩ := HC.out k hlt
        by_cases h32 : p[k].length = 32
        · have j1 : ((p[k].length : Int) != 32) = false := by rw [h32]; rfl
          have HA' : Hid (∀ x ∈ p.take (k + 1), x.length = 32) := by
            intro x hx
            rw [List.take_succ_eq_append_getElem hlt] at hx
            rcases List.mem_append.1 hx with h | h
            · exact HA.out x h
            · rw [List.mem_singleton] at h; rw [h]; exact h32
          obtain ⟨pk, hpk⟩ : ∃ pk, p[k] = pk := ⟨_, rfl⟩
          rw [hpk] at c0 h32 j1
          clear hpk
          go_wp2_with fail
          refine ⟨?relA, ?measureA⟩
          case relA => exact ⟨k + 1, by omega, by go_num, HA'⟩
          case measureA => simp [intOf]; omega
        · have j1 : ((p[k].length : Int) != 32) = true := by rw [bne_iff_ne]; omega
          have HE : Hid (C = ([], 14)) := H32.out k hlt h32
          obtain ⟨pk, hpk⟩ : ∃ pk, p[k] = pk := ⟨_, rfl⟩
          rw [hpk] at c0 h32 j1
          have j2 : ¬ (pk.length : Int) = 32 := by omega
          clear hpk
          go_wp2_with fail
          go_ret2
          refine ⟨.slice none 0 0, ?_, Below.refl _ _, ?_⟩
          · rw [HE.out]; rfl
          · rw [HE.out]; exact World.ownsRow_nil _ _ _ _
      · obtain rfl : k = p.length := by omega
        have hall : ∀ x ∈ p, x.length = 32 := by
          have h := HA.out
          rwa [List.take_of_length_le (Nat.le_refl _)] at h
        have hI := HI.out hall w HT.out
        have HIN' := HIN.out hall
        have hF' := fun L h => HF.out L hall h
        have HN : Hid (C = clEnd sumL N O) := HIN'
        have HFF : Hid (∀ L, O = some L → L.length ≤ N ∧ 0 < L.length ∧ ∀ t ∈ L, t.length ≤ s.length + 65) := hF'
        clear HI HIN HF HIN' hF' hall HA HC HT H32
        obtain ⟨q, hq⟩ : ∃ q, p.length = q := ⟨_, rfl⟩
        simp only [hq] at hI hlt hk h1 h3 ⊢
        clear hq
        go_wp2_with fail
        refine hI.mono ?_
        rintro e w2 hres
        obtain ⟨r, ok, rfl, hb2, hres⟩ := hres
        have hs2 := hb2.size
        rcases hres with ⟨hO, rfl⟩ | ⟨L, hO, rfl, hown⟩
        · have HE : Hid (C = ([], 14)) := by have := HN.out; rw [hO] at this; exact this
          go_wp2_with fail
          go_ret2
          refine ⟨.slice none 0 0, ?_, hb2, ?_⟩
          · rw [HE.out]; rfl
          · rw [HE.out]; exact World.ownsRow_nil _ _ _ _
        · obtain ⟨f1, f2, f3⟩ := HFF.out L hO
          have hLl := f3 _ (last_mem L f2)
          have hLe := last_get L f2
          have hX := IsTxt.own hown (by omega) (fun t ht => by have := f3 t ht; omega)
          obtain ⟨g, goff, gcap, rfl, hglt, gc1, gc2, gn, GC⟩ := hX.at f2
          have d0 : w2.cell? ⟨g, goff + (L.length - 1), none⟩ = some (.string ⟨(L.getLastD []).toArray⟩) := by rw [hLe]; exact GC.out (L.length - 1) (by omega)
          have HE : Hid (C = (L ++ [rootI N (sumL (L.getLastD []))], 0)) := by have := HN.out; rw [hO] at this; exact this
          have hS := fun w1 => rsumL_any (L.getLastD []) (by omega) w1
          have lx := sumL_len (L.getLastD [])
          obtain ⟨u, hu⟩ : ∃ u, L.getLastD [] = u := ⟨_, rfl⟩
          rw [hu] at d0 HE hS lx
          obtain ⟨x, hx⟩ : ∃ x, sumL u = x := ⟨_, rfl⟩
          rw [hx] at HE hS lx
          have hR := fun w1 => rrootIn_any N (by omega) x (by omega) w1
          obtain ⟨R, hRR⟩ : ∃ R, rootI N x = R := ⟨_, rfl⟩
          rw [hRR] at hR HE
          obtain ⟨d, hd⟩ : ∃ d, L.length = d := ⟨_, rfl⟩
          have own2 := hown
          simp only [hd] at own2 d0 f1 f2 gc1 gn ⊢
          clear hu hx hRR hX GC hLe hLl f3 hI hO hown HN HFF
          have v0 : IntKind.i64.wrap ((d : Int) - 1) = (d : Int) - 1 := by rw [IntKind.wrap_i64]; omega
          have v1 : ((d : Int) - 1).toNat = d - 1 := by omega
          have v2 : (0 : Int) ≤ (d : Int) - 1 := by omega
          have v3 : (d : Int) - 1 < (d : Int) := by omega
          go_wp2_with fail
          refine (hS w2).mono ?_
          rintro e w3 ⟨rfl, hb3⟩
          go_wp2_with fail
          refine (hR w3).mono ?_
          rintro e w4 ⟨rfl, hb4⟩
          have hbw4 := bel_trans (bel_trans hb2 hb3) hb4
          have hs4 := hbw4.size
          have own4 : w4.ownsRow w.heap.size 9 1 (.slice (some ⟨g, goff, none⟩) d gcap) d (strV L) := owns_below (owns_below own2 hb3) hb4
          go_wp2_with (at_builtin; refine wpList_append_own _ rfl _ _ 22 rfl w.heap.size 9 i0 (.string ByteArray.empty) 1 16 Tryd.underlying22 hi hz0 hz1 hz2 rfl (by decide) _ _ _ rfl (own4.alloc _) ⟨w4.heap.size, 0, none⟩ 1 1 [.string ⟨R.toArray⟩] rfl rfl ?d1 ?d2 ?d3 ?d4 ?d5 ?_)
          case d1 =>
            intro j u hj
            match j, hj with
            | 0, hj => simp at hj; subst hj; simp [Addr.add]
          case d2 => intro u hu; simp at hu; subst hu; rfl
          case d3 => unfold maxLen; omega
          case d4 => omega
          case d5 => simp; omega
          intro v' w5 own5 grow5 _
          have hbw5 : Below w.heap.size w w5 := (hbw4.alloc hs4 _).grown grow5 (by simp; omega) (fun j hj => (own4.lt j hj).1)
          have HO5 : w5.ownsRow w.heap.size 9 1 v' (L ++ [R]).length (strV (L ++ [R])) := by
            rw [strV_snoc, List.length_append, hd]
            exact own5
          go_wp2_with fail
          go_ret2
          refine ⟨v', ?_, hbw5, ?_⟩
          · rw [HE.out]; rfl
          · rw [HE.out]; exact HO5
end Go.Proofs.YtlkkdfopecbekaaDoor
namespace Go.Proofs.YtlkkdfopecbekaaDoor
set_option maxRecDepth 100000
open Go.RowKit
set_option linter.unusedVariables false
attribute [local go_sem] ba_size
set_option maxHeartbeats 1000000 in
theorem runlike_any (a b : List UInt8) (ha : a.length ≤ 1125899906842700) (hb : b.length ≤ 1125899906842700) (w : World) :
    Calls Tryd.prog 47 #[.string ⟨a.toArray⟩, .string ⟨b.toArray⟩] w fun e w' => e = .returned (unV (unL sumL a b)) ∧ Below w.heap.size w w' := by
  by_cases hab : a = b
  · subst hab
    rw [unL_eq]
    go_enter Tryd.func47, Tryd.ntmps47
    go_wp2_with fail
    go_ret3
    exact ⟨rfl, Below.refl _ _⟩
  · have e1 : (a == b) = false := beq_eq_false_iff_ne.2 hab
    have S1 := fun w1 => rsumL_any a (by omega) w1
    have S2 := fun w1 => rsumL_any b (by omega) w1
    by_cases hs : sumL a = sumL b
    · have HE : Hid (unL sumL a b = some (a, b)) := unL_some sumL a b hab hs
      rw [← hs] at S2
      obtain ⟨x, hx⟩ : ∃ x, sumL a = x := ⟨_, rfl⟩
      rw [hx] at S1 S2
      clear hs hx
      go_enter Tryd.func47, Tryd.ntmps47
      go_wp2_with fail
      refine (S1 w).mono ?_
      rintro e w1 ⟨rfl, hb1⟩
      go_wp2_with fail
      refine (S2 w1).mono ?_
      rintro e w2 ⟨rfl, hb2⟩
      go_wp2_with fail
      go_ret3
      exact ⟨by rw [HE.out]; rfl, bel_trans hb1 hb2⟩
    · have HE : Hid (unL sumL a b = none) := unL_ne sumL a b hs
      have e2 : (sumL a == sumL b) = false := beq_eq_false_iff_ne.2 hs
      obtain ⟨x, hx⟩ : ∃ x, sumL a = x := ⟨_, rfl⟩
      obtain ⟨y, hy⟩ : ∃ y, sumL b = y := ⟨_, rfl⟩
      rw [hx] at S1 e2
      rw [hy] at S2 e2
      clear hs hx hy
      go_enter Tryd.func47, Tryd.ntmps47
      go_wp2_with fail
      refine (S1 w).mono ?_
      rintro e w1 ⟨rfl, hb1⟩
      go_wp2_with fail
      refine (S2 w1).mono ?_
      rintro e w2 ⟨rfl, hb2⟩
      go_wp2_with fail
      go_ret3
      exact ⟨by rw [HE.out]; rfl, bel_trans hb1 hb2⟩
set_option maxHeartbeats 1000000 in
theorem rcheck_any (root : List UInt8) (n i : Int) (s : List UInt8) (hs : s.length ≤ 1125899906842500) (p : List (List UInt8)) (v : Value) (w : World) (hT : IsTxt w v p) :
    Calls Tryd.prog 26 #[.string ⟨root.toArray⟩, .int .i64 n, .int .i64 i, .string ⟨s.toArray⟩, v] w fun e w' => e = .returned (.int .i64 (checkL sumL root n i s p : Int)) ∧ Below w.heap.size w w' := by
  have hC := rclimb_any n i s hs p v w hT
  have HK : Hid (checkL sumL root n i s p = if (climbL sumL n i s p).2 ≠ 0 then (climbL sumL n i s p).2 else if sumL ((climbL sumL n i s p).1.getLastD []) ≠ root then 13 else 0) := (rfl : _ = _)
  have hR := climb_rows sumL sumL_len n i s p
  obtain ⟨C, hCC⟩ : ∃ C, climbL sumL n i s p = C := ⟨_, rfl⟩
  rw [hCC] at hC HK hR
  obtain ⟨a, cap, rfl, h1, h2, h3⟩ := hT.len
  clear hCC hT
  obtain ⟨L, bad⟩ := C
  simp only at hR
  by_cases hb : bad = 0
  · subst hb
    obtain ⟨f1, f2, f3⟩ := hR rfl
    have HK2 : Hid (checkL sumL root n i s p = if sumL (L.getLastD []) ≠ root then 13 else 0) := by have := HK.out; rw [if_neg (by simp)] at this; exact this
    clear HK hR
    have hLl := f3 _ (last_mem L f2)
    have hLe := last_get L f2
    have S1 := fun w1 => rsumL_any (L.getLastD []) (by omega) w1
    by_cases hrt : sumL (L.getLastD []) = root
    · have HE : Hid (checkL sumL root n i s p = 0) := by have := HK2.out; rw [if_neg (fun h => h hrt)] at this; exact this
      rw [hrt] at S1
      clear HK2 hrt
      go_enter Tryd.func26, Tryd.ntmps26
      go_wp2_with fail
      refine hC.mono ?_
      rintro e w1 hres
      obtain ⟨r, rfl, hb1, hown⟩ := hres
      have hX : IsTxt w1 r L := IsTxt.own hown (by show L.length ≤ _; omega) (fun t ht => by have := f3 t ht; omega)
      obtain ⟨g, goff, gcap, rfl, hglt, gc1, gc2, gn, GC⟩ := hX.at f2
      have d0 : w1.cell? ⟨g, goff + (L.length - 1), none⟩ = some (.string ⟨(L.getLastD []).toArray⟩) := by rw [hLe]; exact GC.out (L.length - 1) (by omega)
      obtain ⟨u, hu⟩ : ∃ u, L.getLastD [] = u := ⟨_, rfl⟩
      rw [hu] at d0 S1
      obtain ⟨d, hd⟩ : ∃ d, L.length = d := ⟨_, rfl⟩
      simp only [hd] at d0 f1 f2 gc1 gn ⊢
      clear hu hX GC hLe hLl f3 hC hown hd
      have v0 : IntKind.i64.wrap ((d : Int) - 1) = (d : Int) - 1 := by rw [IntKind.wrap_i64]; omega
      have v1 : ((d : Int) - 1).toNat = d - 1 := by omega
      have v2 : (0 : Int) ≤ (d : Int) - 1 := by omega
      have v3 : (d : Int) - 1 < (d : Int) := by omega
      go_wp2_with fail
      refine (S1 w1).mono ?_
      rintro e w2 ⟨rfl, hb2⟩
      go_wp2_with fail
      go_ret
      exact ⟨by rw [HE.out]; rfl, bel_trans hb1 hb2⟩
    · have HE : Hid (checkL sumL root n i s p = 13) := by have := HK2.out; rw [if_pos hrt] at this; exact this
      have e2 : (sumL (L.getLastD []) == root) = false := beq_eq_false_iff_ne.2 hrt
      obtain ⟨x, hx⟩ : ∃ x, sumL (L.getLastD []) = x := ⟨_, rfl⟩
      rw [hx] at S1 e2
      clear HK2 hrt hx
      go_enter Tryd.func26, Tryd.ntmps26
      go_wp2_with fail
      refine hC.mono ?_
      rintro e w1 hres
      obtain ⟨r, rfl, hb1, hown⟩ := hres
      have hX : IsTxt w1 r L := IsTxt.own hown (by show L.length ≤ _; omega) (fun t ht => by have := f3 t ht; omega)
      obtain ⟨g, goff, gcap, rfl, hglt, gc1, gc2, gn, GC⟩ := hX.at f2
      have d0 : w1.cell? ⟨g, goff + (L.length - 1), none⟩ = some (.string ⟨(L.getLastD []).toArray⟩) := by rw [hLe]; exact GC.out (L.length - 1) (by omega)
      obtain ⟨u, hu⟩ : ∃ u, L.getLastD [] = u := ⟨_, rfl⟩
      rw [hu] at d0 S1
      obtain ⟨d, hd⟩ : ∃ d, L.length = d := ⟨_, rfl⟩
      simp only [hd] at d0 f1 f2 gc1 gn ⊢
      clear hu hX GC hLe hLl f3 hC hown hd
      have v0 : IntKind.i64.wrap ((d : Int) - 1) = (d : Int) - 1 := by rw [IntKind.wrap_i64]; omega
      have v1 : ((d : Int) - 1).toNat = d - 1 := by omega
      have v2 : (0 : Int) ≤ (d : Int) - 1 := by omega
      have v3 : (d : Int) - 1 < (d : Int) := by omega
      go_wp2_with fail
      refine (S1 w1).mono ?_
      rintro e w2 ⟨rfl, hb2⟩
      go_wp2_with fail
      go_ret
      exact ⟨by rw [HE.out]; rfl, bel_trans hb1 hb2⟩
  · have HE : Hid (checkL sumL root n i s p = bad) := by have := HK.out; rw [if_pos hb] at this; exact this
    have i1 : ((bad : Int) != 0) = true := by rw [bne_iff_ne]; omega
    have i2 : ¬ (bad : Int) = 0 := by omega
    clear HK hR
    go_enter Tryd.func26, Tryd.ntmps26
    go_wp2_with fail
    refine hC.mono ?_
    rintro e w1 hres
    obtain ⟨r, rfl, hb1, hown⟩ := hres
    go_wp2_with fail
    go_ret
    exact ⟨by rw [HE.out]; rfl, hb1⟩
end Go.Proofs.YtlkkdfopecbekaaDoor
namespace Go.Proofs.YtlkkdfopecbekaaDoor
set_option maxRecDepth 100000
open Go.RowKit
set_option linter.unusedVariables false
attribute [local go_sem] ba_size
theorem unV_form (O : Option (List UInt8 × List UInt8)) : ∃ (x y : List UInt8) (b : Bool), unV O = .tuple #[.string ⟨x.toArray⟩, .string ⟨y.toArray⟩, .bool b] := by
  cases O with
  | none => exact ⟨[], [], false, rfl⟩
  | some z => exact ⟨z.1, z.2, true, rfl⟩
theorem climb_len (sm : List UInt8 → List UInt8) (h32 : ∀ s, (sm s).length = 32) (n i : Int) (a : List UInt8) (p : List (List UInt8)) (b : List UInt8) (q : List (List UInt8)) (h1 : (climbL sm n i a p).2 = 0) (h2 : (climbL sm n i b q).2 = 0) : (climbL sm n i a p).1.length = (climbL sm n i b q).1.length := by
  obtain ⟨hb, hp, x, hx, ex⟩ := climb_ok sm _ _ _ _ h1
  obtain ⟨_, hq, y, hy, ey⟩ := climb_ok sm _ _ _ _ h2
  have hL := (inL_link sm h32 n.toNat n.toNat i.toNat a b p q x y rfl hp hq hx hy).1.1
  rw [ex, ey, List.length_append, List.length_append, hL]; rfl
theorem backL_same (sm : List UInt8 → List UInt8) (x y : List (List UInt8)) (k : Nat) (h1 : k < x.length) (h2 : k < y.length) (h : x[k] = y[k]) : backL sm x y (k + 1) = backL sm x y k := by
  rw [backL, if_neg]
  rw [List.getD_eq_getElem?_getD, List.getD_eq_getElem?_getD, List.getElem?_eq_getElem h1, List.getElem?_eq_getElem h2]
  simp [h]
theorem backL_diff (sm : List UInt8 → List UInt8) (x y : List (List UInt8)) (k : Nat) (h1 : k < x.length) (h2 : k < y.length) (h : x[k] ≠ y[k]) : backL sm x y (k + 1) = unL sm x[k] y[k] := by
  have e1 : x.getD k [] = x[k] := by rw [List.getD_eq_getElem?_getD, List.getElem?_eq_getElem h1]; rfl
  have e2 : y.getD k [] = y[k] := by rw [List.getD_eq_getElem?_getD, List.getElem?_eq_getElem h2]; rfl
  rw [backL, e1, e2, if_pos h]
set_option maxRecDepth 100000 in
set_option maxHeartbeats 2000000 in
theorem rclash_any (n i : Int) (a : List UInt8) (ha : a.length ≤ 1125899906842500) (p : List (List UInt8)) (va : Value) (b : List UInt8) (hb : b.length ≤ 1125899906842500) (q : List (List UInt8)) (vb : Value) (w : World) (hTa : IsTxt w va p) (hTb : IsTxt w vb q) :
    Calls Tryd.prog 28 #[.int .i64 n, .int .i64 i, .string ⟨a.toArray⟩, va, .string ⟨b.toArray⟩, vb] w fun e w' => e = .returned (unV (clashL sumL n i a p b q)) ∧ Below w.heap.size w w' := by
  have C1 := fun w1 h => rclimb_any n i a ha p va w1 h
  have C2 := fun w1 h => rclimb_any n i b hb q vb w1 h
  have R1 := climb_rows sumL sumL_len n i a p
  have R2 := climb_rows sumL sumL_len n i b q
  have RL := climb_len sumL sumL_len n i a p b q
  have HK : Hid (clashL sumL n i a p b q = if (climbL sumL n i a p).2 ≠ 0 ∨ (climbL sumL n i b q).2 ≠ 0 then none else backL sumL (climbL sumL n i a p).1 (climbL sumL n i b q).1 (climbL sumL n i a p).1.length) := (rfl : _ = _)
  obtain ⟨Ca, hCa⟩ : ∃ C, climbL sumL n i a p = C := ⟨_, rfl⟩
  obtain ⟨Cb, hCb⟩ : ∃ C, climbL sumL n i b q = C := ⟨_, rfl⟩
  rw [hCa] at C1 R1 RL HK
  rw [hCb] at C2 R2 RL HK
  obtain ⟨X, e1⟩ := Ca
  obtain ⟨Y, e2⟩ := Cb
  simp only at R1 R2 RL
  obtain ⟨O, hO⟩ : ∃ O, clashL sumL n i a p b q = O := ⟨_, rfl⟩
  rw [hO] at HK ⊢
  clear hO hCa hCb
  have C1' := C1 w hTa
  have hTb' := hTb
  obtain ⟨aa, capa, rfl, _, _, _⟩ := hTa.len
  obtain ⟨ab, capb, rfl, _, _, _⟩ := hTb.len
  have C2' : Hid (∀ w1, Below w.heap.size w w1 → Calls Tryd.prog 24 #[.int .i64 n, .int .i64 i, .string ⟨b.toArray⟩, .slice ab q.length capb] w1 fun e w' => ClRes w1 (Y, e2) e w') := fun w1 h => C2 w1 (hTb'.below h)
  clear C1 C2 hTa hTb hTb'
  by_cases h1 : e1 = 0
  · subst h1
    by_cases h2 : e2 = 0
    · subst h2
      have hlen := RL rfl rfl
      obtain ⟨f1, f2, f3⟩ := R1 rfl
      obtain ⟨g1, g2, g3⟩ := R2 rfl
      have HB : Hid (O = backL sumL X Y X.length) := by have := HK.out; rw [if_neg (by simp)] at this; exact this
      clear HK R1 R2 RL
      go_enter Tryd.func28, Tryd.ntmps28
      go_wp2_with fail
      refine C1'.mono ?_
      rintro e w1 hres
      obtain ⟨r1, rfl, hb1, own1⟩ := hres
      go_wp2_with fail
      refine (C2'.out w1 hb1).mono ?_
      rintro e w2 hres
      obtain ⟨r2, rfl, hb2, own2⟩ := hres
      have hbw2 := bel_trans hb1 hb2
      have X1 : IsTxt w2 r1 X := (IsTxt.own own1 (by show X.length ≤ _; omega) (fun t ht => by have := f3 t ht; omega)).below hb2
      have Y1 : IsTxt w2 r2 Y := IsTxt.own own2 (by show Y.length ≤ _; omega) (fun t ht => by have := g3 t ht; omega)
      obtain ⟨bx, ox, cx, rfl, hbx, _, _, _, CX⟩ := X1.at f2
      obtain ⟨by', oy, cy, rfl, hby, _, _, _, CY⟩ := Y1.at g2
      have HXB : Hid (∀ t ∈ X, t.length ≤ 1125899906842600) := fun t ht => by have := f3 t ht; omega
      have HYB : Hid (∀ t ∈ Y, t.length ≤ 1125899906842600) := fun t ht => by have := g3 t ht; omega
      have HLen : Hid (X.length = Y.length) := hlen
      clear X1 Y1 own1 own2 f3 g3 C1' C2' hlen
      obtain ⟨d, hd⟩ : ∃ d, X.length = d := ⟨_, rfl⟩
      have hdy : Y.length = d := by have := HLen.out; omega
      have HD : Hid (X.length = d) := hd
      have HDY : Hid (Y.length = d) := hdy
      simp only [hd, hdy] at f1 f2 g1 g2 ⊢
      rw [hd] at HB
      clear hd hdy HLen
      have v0 : IntKind.i64.wrap ((d : Int) - 1) = (d : Int) - 1 := by rw [IntKind.wrap_i64]; omega
      go_wp2_with fail
      go_loopw [19] (fun k wr => ∃ j : Nat, j ≤ d ∧ k = .int .i64 ((j : Int) - 1) ∧ Hid (O = backL sumL X Y j) ∧ Below w.heap.size w wr ∧ Below w2.heap.size w2 wr) (fun k _ => (intOf k + 1).toNat)
      case atStart => exact ⟨d, Nat.le_refl _, rfl, HB, hbw2, Below.refl _ _⟩
      case round =>
        obtain ⟨j, hj, rfl, HJ, hbw, hbv⟩ := hrel
        cases j with
        | zero =>
          have HE : Hid (O = none) := HJ.out
          go_wp2_with fail
          go_ret3
          exact ⟨by rw [HE.out]; rfl, hbw⟩
        | succ m =>
          have hm1 : m < X.length := by have := HD.out; omega
          have hm2 : m < Y.length := by have := HDY.out; omega
          have c1 : wr.cell? ⟨bx, ox + m, none⟩ = some (.string ⟨X[m].toArray⟩) := (hbv.cell (p := ⟨bx, ox + m, none⟩) hbx).trans (CX.out m hm1)
          have c2 : wr.cell? ⟨by', oy + m, none⟩ = some (.string ⟨Y[m].toArray⟩) := (hbv.cell (p := ⟨by', oy + m, none⟩) hby).trans (CY.out m hm2)
          have xb := HXB.out _ (List.getElem_mem hm1)
          have yb := HYB.out _ (List.getElem_mem hm2)
          have hS := backL_same sumL X Y m hm1 hm2
          have hDf := backL_diff sumL X Y m hm1 hm2
          rw [show (((m + 1 : Nat)) : Int) - 1 = (m : Int) by omega]
          have k0 : (m : Int) < (d : Int) := by omega
          have k1 : IntKind.i64.wrap ((m : Int) - 1) = (m : Int) - 1 := by rw [IntKind.wrap_i64]; omega
          obtain ⟨x, hx⟩ : ∃ x, X[m] = x := ⟨_, rfl⟩
          obtain ⟨y, hy⟩ : ∃ y, Y[m] = y := ⟨_, rfl⟩
          rw [hx] at c1 xb hS hDf
          rw [hy] at c2 yb hS hDf
          clear hx hy
          by_cases hxy : x = y
          · have heb : (x == y) = true := by rw [hxy]; exact beq_self_eq_true y
            have HJ' : Hid (O = backL sumL X Y m) := HJ.out.trans (hS hxy)
            clear hS hDf hxy
            go_wp2_with fail
            go_quiet (fail)
            go_wp2_with fail
            refine ⟨?relA, ?measureA⟩
            case relA => exact ⟨m, by omega, by first | rfl | go_num, HJ', below_drewN hbw _, below_drewN hbv _⟩
            case measureA => simp [intOf]
          · have heb : (x == y) = false := beq_eq_false_iff_ne.2 hxy
            have HJ' : Hid (O = unL sumL x y) := HJ.out.trans (hDf hxy)
            have hU := fun w1 => runlike_any x y (by omega) (by omega) w1
            rw [← HJ'.out] at hU
            obtain ⟨s, u, bb, hf⟩ := unV_form O
            rw [hf] at hU
            have HFF : Hid (unV O = .tuple #[.string ⟨s.toArray⟩, .string ⟨u.toArray⟩, .bool bb]) := hf
            clear hS hDf hxy hf
            go_wp2_with fail
            go_quiet (fail)
            go_wp2_with fail
            refine wp_region_any (by kernel_rfl) ?_
            change wpAny _ _ _ _ _ _ _ (World.drew _)
            refine wpAny_take (i := 0) (v := .slice (some ⟨bx, ox, none⟩) d cx) rfl (by kernel_rfl) (by kernel_rfl) (by kernel_rfl) (fun _ _ _ h => h) (Or.inl ⟨by rfl, fun w => by go_simp⟩) ?_
            refine wpAny_take (i := 1) (v := .int .i64 m) rfl (by kernel_rfl) (by kernel_rfl) (by kernel_rfl) (fun _ _ _ h => h) (Or.inl ⟨by rfl, fun w => by go_simp⟩) ?_
            refine wpAny_take (i := 2) (v := .pointer (some ⟨bx, ox + m, none⟩)) rfl (by kernel_rfl) (by kernel_rfl) (by kernel_rfl) (fun _ _ _ h => h) (Or.inl ⟨by rfl, fun w => by go_simp⟩) ?_
            refine wpAny_take (i := 4) (v := .slice (some ⟨by', oy, none⟩) d cy) rfl (by kernel_rfl) (by kernel_rfl) (by kernel_rfl) (fun _ _ _ h => h) (Or.inl ⟨by rfl, fun w => by go_simp⟩) ?_
            refine wpAny_take (i := 5) (v := .int .i64 m) rfl (by kernel_rfl) (by kernel_rfl) (by kernel_rfl) (fun _ _ _ h => h) (Or.inl ⟨by rfl, fun w => by go_simp⟩) ?_
            refine wpAny_take (i := 6) (v := .pointer (some ⟨by', oy + m, none⟩)) rfl (by kernel_rfl) (by kernel_rfl) (by kernel_rfl) (fun _ _ _ h => h) (Or.inl ⟨by rfl, fun w => by go_simp⟩) ?_
            refine wpAny_ready (rs := [3, 7]) (by kernel_rfl) (by simp) ?_
            refine AllReady.cons rfl (fun K' hK => ?_) ?_
            · go_simp
              refine hK _ _ ?_
              clear hK K'
              refine wpAny_ready (rs := [7]) (by kernel_rfl) (by simp) ?_
              refine AllReady.cons rfl (fun K' hK => ?_) AllReady.nil
              go_simp
              refine hK _ _ ?_
              clear hK K'
              refine wpAny_ready (rs := [8]) (by kernel_rfl) (by simp) ?_
              refine AllReady.cons rfl (fun K' hK => ?_) AllReady.nil
              go_simp
              refine (hU _).mono ?_
              rintro e w5 ⟨rfl, hb5⟩
              refine hK _ _ ?_
              clear hK K'
              refine wpAny_take (i := 9) (v := .string ⟨s.toArray⟩) rfl (by kernel_rfl) (by kernel_rfl) (by kernel_rfl) (fun _ _ _ h => h) (Or.inl ⟨by rfl, fun w => by go_simp⟩) ?_
              refine wpAny_take (i := 10) (v := .string ⟨u.toArray⟩) rfl (by kernel_rfl) (by kernel_rfl) (by kernel_rfl) (fun _ _ _ h => h) (Or.inl ⟨by rfl, fun w => by go_simp⟩) ?_
              refine wpAny_take (i := 11) (v := .bool bb) rfl (by kernel_rfl) (by kernel_rfl) (by kernel_rfl) (fun _ _ _ h => h) (Or.inl ⟨by rfl, fun w => by go_simp⟩) ?_
              refine any_seqI [12, 13, 14] [_, _, _] _ _ _ rfl (by kernel_rfl) ?_
              go_wp2_with fail
              go_ret3
              refine ⟨by rw [HFF.out]; rfl, ?_⟩
              exact bel_trans (below_drewN hbw _).drew hb5
            · refine AllReady.cons rfl (fun K' hK => ?_) AllReady.nil
              go_simp
              refine hK _ _ ?_
              clear hK K'
              refine wpAny_ready (rs := [3]) (by kernel_rfl) (by simp) ?_
              refine AllReady.cons rfl (fun K' hK => ?_) AllReady.nil
              go_simp
              refine hK _ _ ?_
              clear hK K'
              refine wpAny_ready (rs := [8]) (by kernel_rfl) (by simp) ?_
              refine AllReady.cons rfl (fun K' hK => ?_) AllReady.nil
              go_simp
              refine (hU _).mono ?_
              rintro e w5 ⟨rfl, hb5⟩
              refine hK _ _ ?_
              clear hK K'
              refine wpAny_take (i := 9) (v := .string ⟨s.toArray⟩) rfl (by kernel_rfl) (by kernel_rfl) (by kernel_rfl) (fun _ _ _ h => h) (Or.inl ⟨by rfl, fun w => by go_simp⟩) ?_
              refine wpAny_take (i := 10) (v := .string ⟨u.toArray⟩) rfl (by kernel_rfl) (by kernel_rfl) (by kernel_rfl) (fun _ _ _ h => h) (Or.inl ⟨by rfl, fun w => by go_simp⟩) ?_
              refine wpAny_take (i := 11) (v := .bool bb) rfl (by kernel_rfl) (by kernel_rfl) (by kernel_rfl) (fun _ _ _ h => h) (Or.inl ⟨by rfl, fun w => by go_simp⟩) ?_
              refine any_seqI [12, 13, 14] [_, _, _] _ _ _ rfl (by kernel_rfl) ?_
              go_wp2_with fail
              go_ret3
              refine ⟨by rw [HFF.out]; rfl, ?_⟩
              exact bel_trans (below_drewN hbw _).drew hb5
    · have HE : Hid (O = none) := by have := HK.out; rw [if_pos (Or.inr h2)] at this; exact this
      have i2 : ((e2 : Int) != 0) = true := by rw [bne_iff_ne]; omega
      have i3 : ¬ (e2 : Int) = 0 := by omega
      clear HK R1 R2 RL
      go_enter Tryd.func28, Tryd.ntmps28
      go_wp2_with fail
      refine C1'.mono ?_
      rintro e w1 hres
      obtain ⟨r1, rfl, hb1, own1⟩ := hres
      go_wp2_with fail
      refine (C2'.out w1 hb1).mono ?_
      rintro e w2 hres
      obtain ⟨r2, rfl, hb2, own2⟩ := hres
      go_wp2_with fail
      go_ret3
      exact ⟨by rw [HE.out]; rfl, bel_trans hb1 hb2⟩
  · have HE : Hid (O = none) := by have := HK.out; rw [if_pos (Or.inl h1)] at this; exact this
    have i2 : ((e1 : Int) != 0) = true := by rw [bne_iff_ne]; omega
    have i3 : ¬ (e1 : Int) = 0 := by omega
    clear HK R1 R2 RL
    go_enter Tryd.func28, Tryd.ntmps28
    go_wp2_with fail
    refine C1'.mono ?_
    rintro e w1 hres
    obtain ⟨r1, rfl, hb1, own1⟩ := hres
    go_wp2_with fail
    refine (C2'.out w1 hb1).mono ?_
    rintro e w2 hres
    obtain ⟨r2, rfl, hb2, own2⟩ := hres
    go_wp2_with fail
    go_ret3
    exact ⟨by rw [HE.out]; rfl, bel_trans hb1 hb2⟩
end Go.Proofs.YtlkkdfopecbekaaDoor
namespace Go.Proofs.YtlkkdfopecbekaaDoor
set_option maxRecDepth 100000
open Go.RowKit
set_option linter.unusedVariables false
attribute [local go_sem] ba_size
theorem crL_diff (sm : List UInt8 → List UInt8) (a b : List (List UInt8)) (h : topL sm a ≠ topL sm b) : crL sm a b = unL sm (topL sm a) (topL sm b) := by rw [crL, if_pos h]
theorem crL_one (sm : List UInt8 → List UInt8) (a b : List (List UInt8)) (h : topL sm a = topL sm b) (h1 : a.length ≤ 1) : crL sm a b = none := by rw [crL, if_neg (fun h' => h' h), dif_pos h1]
theorem crL_left (sm : List UInt8 → List UInt8) (a b : List (List UInt8)) (h : topL sm a = topL sm b) (h1 : 2 ≤ a.length) (z : List UInt8 × List UInt8) (hz : crL sm (a.take (hf a.length)) (b.take (hf a.length)) = some z) : crL sm a b = some z := by rw [crL, if_neg (fun h' => h' h), dif_neg (by omega), hz]
theorem crL_right (sm : List UInt8 → List UInt8) (a b : List (List UInt8)) (h : topL sm a = topL sm b) (h1 : 2 ≤ a.length) (hz : crL sm (a.take (hf a.length)) (b.take (hf a.length)) = none) : crL sm a b = crL sm (a.drop (hf a.length)) (b.drop (hf a.length)) := by rw [crL, if_neg (fun h' => h' h), dif_neg (by omega), hz]
set_option maxRecDepth 100000 in
set_option maxHeartbeats 2000000 in
theorem rcr_any : ∀ (m : Nat) (a b : List (List UInt8)) (va vb : Value) (w : World), a.length = m → b.length = m → 0 < m → IsTxt w va a → IsTxt w vb b →
    Calls Tryd.prog 49 #[va, vb] w fun e w' => e = .returned (unV (crL sumL a b)) ∧ Below w.heap.size w w' := by
  intro m
  induction m using Nat.strongRecOn with
  | _ m ih =>
    intro a b va vb w ha hb h0 hTa hTb
    have la := topL_len sumL sumL_len a hTa.bound
    have lb := topL_len sumL sumL_len b hTb.bound
    have A1 : Hid (∀ w1, Below w.heap.size w w1 → Calls Tryd.prog 58 #[va] w1 fun e w' => e = .returned (.string ⟨(topL sumL a).toArray⟩) ∧ Below w1.heap.size w1 w') := fun w1 h => rtop_any m a va w1 ha h0 (hTa.below h)
    have A2 : Hid (∀ w1, Below w.heap.size w w1 → Calls Tryd.prog 58 #[vb] w1 fun e w' => e = .returned (.string ⟨(topL sumL b).toArray⟩) ∧ Below w1.heap.size w1 w') := fun w1 h => rtop_any m b vb w1 hb h0 (hTb.below h)
    obtain ⟨b1, o1, c1, rfl, hb1, hc1, hc1', hn1, _⟩ := hTa.at (by omega)
    obtain ⟨b2, o2, c2, rfl, hb2, hc2, hc2', hn2, _⟩ := hTb.at (by omega)
    have hTa' := hTa
    have hTb' := hTb
    rw [ha] at A1 hc1 hn1 hTa' ⊢
    rw [hb] at A2 hc2 hn2 hTb' ⊢
    by_cases hxy : topL sumL a = topL sumL b
    · rw [← hxy] at A2
      by_cases h1 : a.length = 1
      · have HE : Hid (crL sumL a b = none) := crL_one sumL a b hxy (by omega)
        obtain ⟨x, hx⟩ : ∃ x, topL sumL a = x := ⟨_, rfl⟩
        rw [hx] at A1 A2
        obtain rfl : m = 1 := by omega
        clear ih hTa hTb hTa' hTb' hxy hx la lb ha hb h1
        go_enter Tryd.func49, Tryd.ntmps49
        go_wp2_with fail
        refine (A1.out w (Below.refl _ _)).mono ?_
        rintro e w1 ⟨rfl, hw1⟩
        go_wp2_with fail
        refine (A2.out w1 hw1).mono ?_
        rintro e w2 ⟨rfl, hw2⟩
        go_wp2_with fail
        go_ret3
        exact ⟨by rw [HE.out]; rfl, bel_trans hw1 hw2⟩
      · have hlt := hf_lt a.length (by omega)
        have hps := hf_pos a.length
        have E1 := crL_left sumL a b hxy (by omega)
        have E2 := crL_right sumL a b hxy (by omega)
        have hH := fun w1 => rhalf_any a.length (by omega) w1
        obtain ⟨k, hk⟩ : ∃ k, hf a.length = k := ⟨_, rfl⟩
        rw [hk] at hlt hps hH E1 E2
        have P1 := hTa.take k (by omega) (by omega)
        have P2 := hTb.take k (by omega) (by omega)
        have P3 := hTa.drop k (by omega) (by omega)
        have P4 := hTb.drop k (by omega) (by omega)
        clear hTa' hTb'
        rw [ha] at P3
        rw [hb] at P4
        have I1 : ∀ w1, Below w.heap.size w w1 → Calls Tryd.prog 49 #[.slice (some ⟨b1, o1, none⟩) k c1, .slice (some ⟨b2, o2, none⟩) k c2] w1 fun e w' => e = .returned (unV (crL sumL (a.take k) (b.take k))) ∧ Below w1.heap.size w1 w' := fun w1 h => ih k (by omega) _ _ _ _ w1 (by rw [List.length_take]; omega) (by rw [List.length_take]; omega) (by omega) (P1.below h) (P2.below h)
        have I2 : ∀ w1, Below w.heap.size w w1 → Calls Tryd.prog 49 #[.slice (some ⟨b1, o1 + k, none⟩) (m - k) (c1 - k), .slice (some ⟨b2, o2 + k, none⟩) (m - k) (c2 - k)] w1 fun e w' => e = .returned (unV (crL sumL (a.drop k) (b.drop k))) ∧ Below w1.heap.size w1 w' := fun w1 h => ih (m - k) (by omega) _ _ _ _ w1 (by rw [List.length_drop]; omega) (by rw [List.length_drop]; omega) (by omega) (P3.below h) (P4.below h)
        obtain ⟨x, hx⟩ : ∃ x, topL sumL a = x := ⟨_, rfl⟩
        rw [hx] at A1 A2
        rw [ha] at hH hlt
        clear hx hxy hTa hTb P1 P2 P3 P4 la lb hk ha hb h1
        have h1 : m ≠ 1 := by omega
        have j1 : ((m : Int) == 1) = false := by rw [beq_eq_false_iff_ne]; omega
        have j2 : (k : Int) ≤ (c1 : Int) := by omega
        have j3 : (k : Int) ≤ (c2 : Int) := by omega
        have j4 : (k : Int) ≤ (m : Int) := by omega
        have j5 : ¬ c1 = k := by omega
        have j6 : ¬ c2 = k := by omega
        obtain ⟨O1, hO1⟩ : ∃ O, crL sumL (a.take k) (b.take k) = O := ⟨_, rfl⟩
        obtain ⟨O2, hO2⟩ : ∃ O, crL sumL (a.drop k) (b.drop k) = O := ⟨_, rfl⟩
        rw [hO1] at I1 E1 E2
        rw [hO2] at I2 E2
        clear hO1 hO2 ih
        cases O1 with
        | some z =>
          obtain ⟨z1, z2⟩ := z
          have HE : Hid (crL sumL a b = some (z1, z2)) := E1 (z1, z2) rfl
          clear E1 E2 I2
          simp only [unV] at I1
          go_enter Tryd.func49, Tryd.ntmps49
          go_wp2_with fail
          refine (A1.out w (Below.refl _ _)).mono ?_
          rintro e w1 ⟨rfl, hw1⟩
          go_wp2_with fail
          refine (A2.out w1 hw1).mono ?_
          rintro e w2 ⟨rfl, hw2⟩
          have hbw2 := bel_trans hw1 hw2
          go_wp2_with fail
          refine (hH w2).mono ?_
          rintro e w3 ⟨rfl, hw3⟩
          have hbw3 := bel_trans hbw2 hw3
          go_wp2_with fail
          refine wp_region_any (by kernel_rfl) ?_
          change wpAny _ _ _ _ _ _ _ (World.drew _)
          refine wpAny_take (i := 0) (v := .slice (some ⟨b1, o1, none⟩) m c1) rfl (by kernel_rfl) (by kernel_rfl) (by kernel_rfl) (fun _ _ _ h => h) (Or.inl ⟨by rfl, fun w => by go_simp⟩) ?_
          refine wpAny_take (i := 1) (v := .int .i64 k) rfl (by kernel_rfl) (by kernel_rfl) (by kernel_rfl) (fun _ _ _ h => h) (Or.inl ⟨by rfl, fun w => by go_simp⟩) ?_
          refine wpAny_take (i := 2) (v := .slice (some ⟨b1, o1, none⟩) k c1) rfl (by kernel_rfl) (by kernel_rfl) (by kernel_rfl) (fun _ _ _ h => h) (Or.inl ⟨by rfl, fun w => by go_simp⟩) ?_
          refine wpAny_take (i := 3) (v := .slice (some ⟨b2, o2, none⟩) m c2) rfl (by kernel_rfl) (by kernel_rfl) (by kernel_rfl) (fun _ _ _ h => h) (Or.inl ⟨by rfl, fun w => by go_simp⟩) ?_
          refine wpAny_take (i := 4) (v := .int .i64 k) rfl (by kernel_rfl) (by kernel_rfl) (by kernel_rfl) (fun _ _ _ h => h) (Or.inl ⟨by rfl, fun w => by go_simp⟩) ?_
          refine wpAny_take (i := 5) (v := .slice (some ⟨b2, o2, none⟩) k c2) rfl (by kernel_rfl) (by kernel_rfl) (by kernel_rfl) (fun _ _ _ h => h) (Or.inl ⟨by rfl, fun w => by go_simp⟩) ?_
          refine wpAny_ready (rs := [6]) (by kernel_rfl) (by simp) ?_
          refine AllReady.cons rfl (fun K' hK => ?_) AllReady.nil
          go_simp
          refine (I1 _ hbw3.drew).mono ?_
          rintro e w4 ⟨rfl, hb4⟩
          have hbw4 := bel_trans hbw3.drew hb4
          refine hK _ _ ?_
          clear hK K'
          refine wpAny_take (i := 7) (v := .tuple #[.string ⟨z1.toArray⟩, .string ⟨z2.toArray⟩, .bool true]) rfl (by kernel_rfl) (by kernel_rfl) (by kernel_rfl) (fun _ _ _ h => h) (Or.inl ⟨by rfl, fun w => by go_simp⟩) ?_
          refine wpAny_take (i := 8) (v := .string ⟨z1.toArray⟩) rfl (by kernel_rfl) (by kernel_rfl) (by kernel_rfl) (fun _ _ _ h => h) (Or.inl ⟨by rfl, fun w => by go_simp⟩) ?_
          refine wpAny_take (i := 9) (v := .string ⟨z2.toArray⟩) rfl (by kernel_rfl) (by kernel_rfl) (by kernel_rfl) (fun _ _ _ h => h) (Or.inl ⟨by rfl, fun w => by go_simp⟩) ?_
          refine wpAny_take (i := 10) (v := .bool true) rfl (by kernel_rfl) (by kernel_rfl) (by kernel_rfl) (fun _ _ _ h => h) (Or.inl ⟨by rfl, fun w => by go_simp⟩) ?_
          refine any_seqI [11, 12, 13] [_, _, _] _ _ _ rfl (by kernel_rfl) ?_
          go_wp2_with fail
          go_ret3
          exact ⟨by rw [HE.out]; rfl, hbw4⟩
        | none =>
          have HE : Hid (crL sumL a b = O2) := E2 rfl
          clear E1 E2
          obtain ⟨s, u, bb, hf⟩ := unV_form O2
          rw [hf] at I2
          have HFF : Hid (unV (crL sumL a b) = .tuple #[.string ⟨s.toArray⟩, .string ⟨u.toArray⟩, .bool bb]) := by rw [HE.out]; exact hf
          clear hf
          simp only [unV] at I1
          go_enter Tryd.func49, Tryd.ntmps49
          go_wp2_with fail
          refine (A1.out w (Below.refl _ _)).mono ?_
          rintro e w1 ⟨rfl, hw1⟩
          go_wp2_with fail
          refine (A2.out w1 hw1).mono ?_
          rintro e w2 ⟨rfl, hw2⟩
          have hbw2 := bel_trans hw1 hw2
          go_wp2_with fail
          refine (hH w2).mono ?_
          rintro e w3 ⟨rfl, hw3⟩
          have hbw3 := bel_trans hbw2 hw3
          go_wp2_with fail
          refine wp_region_any (by kernel_rfl) ?_
          change wpAny _ _ _ _ _ _ _ (World.drew _)
          refine wpAny_take (i := 0) (v := .slice (some ⟨b1, o1, none⟩) m c1) rfl (by kernel_rfl) (by kernel_rfl) (by kernel_rfl) (fun _ _ _ h => h) (Or.inl ⟨by rfl, fun w => by go_simp⟩) ?_
          refine wpAny_take (i := 1) (v := .int .i64 k) rfl (by kernel_rfl) (by kernel_rfl) (by kernel_rfl) (fun _ _ _ h => h) (Or.inl ⟨by rfl, fun w => by go_simp⟩) ?_
          refine wpAny_take (i := 2) (v := .slice (some ⟨b1, o1, none⟩) k c1) rfl (by kernel_rfl) (by kernel_rfl) (by kernel_rfl) (fun _ _ _ h => h) (Or.inl ⟨by rfl, fun w => by go_simp⟩) ?_
          refine wpAny_take (i := 3) (v := .slice (some ⟨b2, o2, none⟩) m c2) rfl (by kernel_rfl) (by kernel_rfl) (by kernel_rfl) (fun _ _ _ h => h) (Or.inl ⟨by rfl, fun w => by go_simp⟩) ?_
          refine wpAny_take (i := 4) (v := .int .i64 k) rfl (by kernel_rfl) (by kernel_rfl) (by kernel_rfl) (fun _ _ _ h => h) (Or.inl ⟨by rfl, fun w => by go_simp⟩) ?_
          refine wpAny_take (i := 5) (v := .slice (some ⟨b2, o2, none⟩) k c2) rfl (by kernel_rfl) (by kernel_rfl) (by kernel_rfl) (fun _ _ _ h => h) (Or.inl ⟨by rfl, fun w => by go_simp⟩) ?_
          refine wpAny_ready (rs := [6]) (by kernel_rfl) (by simp) ?_
          refine AllReady.cons rfl (fun K' hK => ?_) AllReady.nil
          go_simp
          refine (I1 _ hbw3.drew).mono ?_
          rintro e w4 ⟨rfl, hb4⟩
          have hbw4 := bel_trans hbw3.drew hb4
          refine hK _ _ ?_
          clear hK K'
          refine wpAny_take (i := 7) (v := .tuple #[.string ⟨#[]⟩, .string ⟨#[]⟩, .bool false]) rfl (by kernel_rfl) (by kernel_rfl) (by kernel_rfl) (fun _ _ _ h => h) (Or.inl ⟨by rfl, fun w => by go_simp⟩) ?_
          refine wpAny_take (i := 8) (v := .string ⟨#[]⟩) rfl (by kernel_rfl) (by kernel_rfl) (by kernel_rfl) (fun _ _ _ h => h) (Or.inl ⟨by rfl, fun w => by go_simp⟩) ?_
          refine wpAny_take (i := 9) (v := .string ⟨#[]⟩) rfl (by kernel_rfl) (by kernel_rfl) (by kernel_rfl) (fun _ _ _ h => h) (Or.inl ⟨by rfl, fun w => by go_simp⟩) ?_
          refine wpAny_take (i := 10) (v := .bool false) rfl (by kernel_rfl) (by kernel_rfl) (by kernel_rfl) (fun _ _ _ h => h) (Or.inl ⟨by rfl, fun w => by go_simp⟩) ?_
          refine any_seqI [11, 12, 13] [_, _, _] _ _ _ rfl (by kernel_rfl) ?_
          go_wp2_with fail
          refine wp_region_any (by kernel_rfl) ?_
          change wpAny _ _ _ _ _ _ _ (World.drew _)
          refine wpAny_take (i := 0) (v := .slice (some ⟨b1, o1, none⟩) m c1) rfl (by kernel_rfl) (by kernel_rfl) (by kernel_rfl) (fun _ _ _ h => h) (Or.inl ⟨by rfl, fun w => by go_simp⟩) ?_
          refine wpAny_take (i := 1) (v := .int .i64 k) rfl (by kernel_rfl) (by kernel_rfl) (by kernel_rfl) (fun _ _ _ h => h) (Or.inl ⟨by rfl, fun w => by go_simp⟩) ?_
          refine wpAny_take (i := 2) (v := .slice (some ⟨b1, o1 + k, none⟩) (m - k) (c1 - k)) rfl (by kernel_rfl) (by kernel_rfl) (by kernel_rfl) (fun _ _ _ h => h) (Or.inl ⟨by rfl, fun w => by go_simp⟩) ?_
          refine wpAny_take (i := 3) (v := .slice (some ⟨b2, o2, none⟩) m c2) rfl (by kernel_rfl) (by kernel_rfl) (by kernel_rfl) (fun _ _ _ h => h) (Or.inl ⟨by rfl, fun w => by go_simp⟩) ?_
          refine wpAny_take (i := 4) (v := .int .i64 k) rfl (by kernel_rfl) (by kernel_rfl) (by kernel_rfl) (fun _ _ _ h => h) (Or.inl ⟨by rfl, fun w => by go_simp⟩) ?_
          refine wpAny_take (i := 5) (v := .slice (some ⟨b2, o2 + k, none⟩) (m - k) (c2 - k)) rfl (by kernel_rfl) (by kernel_rfl) (by kernel_rfl) (fun _ _ _ h => h) (Or.inl ⟨by rfl, fun w => by go_simp⟩) ?_
          refine wpAny_ready (rs := [6]) (by kernel_rfl) (by simp) ?_
          refine AllReady.cons rfl (fun K' hK => ?_) AllReady.nil
          go_simp
          refine (I2 _ hbw4.drew).mono ?_
          rintro e w5 ⟨rfl, hb5⟩
          have hbw5 := bel_trans hbw4.drew hb5
          refine hK _ _ ?_
          clear hK K'
          refine wpAny_take (i := 7) (v := .string ⟨s.toArray⟩) rfl (by kernel_rfl) (by kernel_rfl) (by kernel_rfl) (fun _ _ _ h => h) (Or.inl ⟨by rfl, fun w => by go_simp⟩) ?_
          refine wpAny_take (i := 8) (v := .string ⟨u.toArray⟩) rfl (by kernel_rfl) (by kernel_rfl) (by kernel_rfl) (fun _ _ _ h => h) (Or.inl ⟨by rfl, fun w => by go_simp⟩) ?_
          refine wpAny_take (i := 9) (v := .bool bb) rfl (by kernel_rfl) (by kernel_rfl) (by kernel_rfl) (fun _ _ _ h => h) (Or.inl ⟨by rfl, fun w => by go_simp⟩) ?_
          refine any_seqI [10, 11, 12] [_, _, _] _ _ _ rfl (by kernel_rfl) ?_
          go_wp2_with fail
          go_ret3
          exact ⟨by rw [HFF.out]; rfl, hbw5⟩
    · have HE : Hid (crL sumL a b = unL sumL (topL sumL a) (topL sumL b)) := crL_diff sumL a b hxy
      have heb : (topL sumL a == topL sumL b) = false := beq_eq_false_iff_ne.2 hxy
      obtain ⟨x, hx⟩ : ∃ x, topL sumL a = x := ⟨_, rfl⟩
      obtain ⟨y, hy⟩ : ∃ y, topL sumL b = y := ⟨_, rfl⟩
      rw [hx] at A1 HE heb la
      rw [hy] at A2 HE heb lb
      have hU := fun w1 => runlike_any x y (by omega) (by omega) w1
      obtain ⟨s, u, bb, hf⟩ := unV_form (unL sumL x y)
      rw [hf] at hU
      have HFF : Hid (unV (crL sumL a b) = .tuple #[.string ⟨s.toArray⟩, .string ⟨u.toArray⟩, .bool bb]) := by rw [HE.out]; exact hf
      clear hf ih hTa hTb hTa' hTb' hxy hx hy ha hb
      go_enter Tryd.func49, Tryd.ntmps49
      go_wp2_with fail
      refine (A1.out w (Below.refl _ _)).mono ?_
      rintro e w1 ⟨rfl, hw1⟩
      go_wp2_with fail
      refine (A2.out w1 hw1).mono ?_
      rintro e w2 ⟨rfl, hw2⟩
      have hbw2 := bel_trans hw1 hw2
      go_wp2_with fail
      refine (hU w2).mono ?_
      rintro e w3 ⟨rfl, hw3⟩
      go_wp2_with fail
      go_ret3
      exact ⟨by rw [HFF.out]; rfl, bel_trans hbw2 hw3⟩
end Go.Proofs.YtlkkdfopecbekaaDoor
namespace Go.Proofs.YtlkkdfopecbekaaDoor
set_option maxRecDepth 100000
open Go.RowKit
set_option linter.unusedVariables false
attribute [local go_sem] ba_size
set_option maxRecDepth 100000 in
set_option maxHeartbeats 1000000 in
theorem rdiffer_any (a b : List (List UInt8)) (va vb : Value) (w : World) (hTa : IsTxt w va a) (hTb : IsTxt w vb b) :
    Calls Tryd.prog 30 #[va, vb] w fun e w' => e = .returned (unV (differL sumL a b)) ∧ Below w.heap.size w w' := by
  by_cases hbig : 4096 < a.length ∨ 4096 < b.length
  · have HE : Hid (differL sumL a b = none) := by show differL sumL a b = none; unfold differL; rw [if_pos hbig]
    obtain ⟨aa, ca, rfl, _, _, _⟩ := hTa.len
    obtain ⟨ab, cb, rfl, _, _, _⟩ := hTb.len
    clear hTa hTb
    by_cases h1 : 4096 < a.length
    · have i1 : (4096 : Int) < (a.length : Int) := by omega
      go_enter Tryd.func30, Tryd.ntmps30
      go_wp2_with fail
      go_ret3
      exact ⟨by rw [HE.out]; rfl, Below.refl _ _⟩
    · have i1 : ¬ (4096 : Int) < (a.length : Int) := by omega
      have i2 : (4096 : Int) < (b.length : Int) := by omega
      go_enter Tryd.func30, Tryd.ntmps30
      go_wp2_with fail
      go_ret3
      exact ⟨by rw [HE.out]; rfl, Below.refl _ _⟩
  · have C1 : Hid (∀ w1, Below w.heap.size w w1 → Calls Tryd.prog 36 #[va] w1 fun e w' => e = .returned (.string ⟨(crownL sumL a).toArray⟩) ∧ Below w1.heap.size w1 w') := fun w1 h => rcrown_any a va w1 (hTa.below h)
    have C2 : Hid (∀ w1, Below w.heap.size w w1 → Calls Tryd.prog 36 #[vb] w1 fun e w' => e = .returned (.string ⟨(crownL sumL b).toArray⟩) ∧ Below w1.heap.size w1 w') := fun w1 h => rcrown_any b vb w1 (hTb.below h)
    have lc1 := crownL_le sumL sumL_len a
    have lc2 := crownL_le sumL sumL_len b
    have lr1 := rootI_len a.length (crownL sumL a) lc1
    have lr2 := rootI_len b.length (crownL sumL b) lc2
    have R1 := fun w1 => rrootIn_any a.length (by omega) (crownL sumL a) lc1 w1
    have R2 := fun w1 => rrootIn_any b.length (by omega) (crownL sumL b) lc2 w1
    by_cases hxy : rootI a.length (crownL sumL a) = rootI b.length (crownL sumL b)
    · obtain ⟨hlen, hcr⟩ := rootI_inj a.length b.length (by omega) (by omega) _ _ hxy
      rw [← hxy] at R2
      have CR : 0 < a.length → Hid (∀ w1, Below w.heap.size w w1 → Calls Tryd.prog 49 #[va, vb] w1 fun e w' => e = .returned (unV (crL sumL a b)) ∧ Below w1.heap.size w1 w') := fun h0 w1 h => rcr_any a.length a b va vb w1 rfl hlen.symm h0 (hTa.below h) (hTb.below h)
      obtain ⟨aa, ca, rfl, h4, h5, h6⟩ := hTa.len
      obtain ⟨ab, cb, rfl, h7, h8, h9⟩ := hTb.len
      rw [← hlen] at C2 R2 CR h7 h9 ⊢
      rw [← hcr] at C2 R2
      obtain ⟨x, hx⟩ : ∃ x, rootI a.length (crownL sumL a) = x := ⟨_, rfl⟩
      rw [hx] at R1 R2
      by_cases h0 : a.length = 0
      · have HE : Hid (differL sumL a b = none) := by show differL sumL a b = none; unfold differL; rw [if_neg hbig, if_neg (fun h => h hxy), if_pos h0]
        rw [h0] at C1 C2 R1 R2 ⊢
        obtain ⟨c, hc⟩ : ∃ c, crownL sumL a = c := ⟨_, rfl⟩
        rw [hc] at C1 C2 R1 R2
        clear hTa hTb CR hxy hcr hlen hx hbig hc lc1 lc2 lr1 lr2 h0 h4 h6 h7 h9
        go_enter Tryd.func30, Tryd.ntmps30
        go_wp2_with fail
        refine (C1.out w (Below.refl _ _)).mono ?_
        rintro e w1 ⟨rfl, hw1⟩
        go_wp2_with fail
        refine (R1 w1).mono ?_
        rintro e w2 ⟨rfl, hw2⟩
        have hbw2 := bel_trans hw1 hw2
        go_wp2_with fail
        refine (C2.out w2 hbw2).mono ?_
        rintro e w3 ⟨rfl, hw3⟩
        go_wp2_with fail
        refine (R2 w3).mono ?_
        rintro e w4 ⟨rfl, hw4⟩
        go_wp2_with fail
        go_ret3
        exact ⟨by rw [HE.out]; rfl, bel_trans (bel_trans hbw2 hw3) hw4⟩
      · have HE : Hid (differL sumL a b = crL sumL a b) := by show differL sumL a b = _; unfold differL; rw [if_neg hbig, if_neg (fun h => h hxy), if_neg h0]
        have CR' := CR (by omega)
        obtain ⟨O, hO⟩ : ∃ O, crL sumL a b = O := ⟨_, rfl⟩
        rw [hO] at CR' HE
        obtain ⟨s, u, bb, hf⟩ := unV_form O
        rw [hf] at CR'
        have HFF : Hid (unV (differL sumL a b) = .tuple #[.string ⟨s.toArray⟩, .string ⟨u.toArray⟩, .bool bb]) := by rw [HE.out]; exact hf
        obtain ⟨c, hc⟩ : ∃ c, crownL sumL a = c := ⟨_, rfl⟩
        rw [hc] at C1 C2 R1 R2
        obtain ⟨n, hn⟩ : ∃ n, a.length = n := ⟨_, rfl⟩
        have hn4 : n ≤ 4096 := by omega
        rw [hn] at C1 C2 R1 R2 CR' h0 ⊢
        have i1 : ¬ (4096 : Int) < (n : Int) := by omega
        have i2 : ((n : Int) == 0) = false := by rw [beq_eq_false_iff_ne]; omega
        have i3 : n ≤ 140737488351232 := by omega
        clear hTa hTb CR hxy hcr hlen hx hbig hc hn lc1 lc2 lr1 lr2 hO hf h4 h6 h7 h9
        go_enter Tryd.func30, Tryd.ntmps30
        go_wp2_with fail
        refine (C1.out w (Below.refl _ _)).mono ?_
        rintro e w1 ⟨rfl, hw1⟩
        go_wp2_with fail
        refine (R1 w1).mono ?_
        rintro e w2 ⟨rfl, hw2⟩
        have hbw2 := bel_trans hw1 hw2
        go_wp2_with fail
        refine (C2.out w2 hbw2).mono ?_
        rintro e w3 ⟨rfl, hw3⟩
        go_wp2_with fail
        refine (R2 w3).mono ?_
        rintro e w4 ⟨rfl, hw4⟩
        have hbw4 := bel_trans (bel_trans hbw2 hw3) hw4
        go_wp2_with fail
        refine (CR'.out w4 hbw4).mono ?_
        rintro e w5 ⟨rfl, hw5⟩
        go_wp2_with fail
        go_ret3
        exact ⟨by rw [HFF.out]; rfl, bel_trans hbw4 hw5⟩
    · have HE : Hid (differL sumL a b = unL sumL (rootI a.length (crownL sumL a)) (rootI b.length (crownL sumL b))) := by show differL sumL a b = _; unfold differL; rw [if_neg hbig, if_pos hxy]
      have heb : (rootI a.length (crownL sumL a) == rootI b.length (crownL sumL b)) = false := beq_eq_false_iff_ne.2 hxy
      obtain ⟨aa, ca, rfl, h4, h5, h6⟩ := hTa.len
      obtain ⟨ab, cb, rfl, h7, h8, h9⟩ := hTb.len
      obtain ⟨x, hx⟩ : ∃ x, rootI a.length (crownL sumL a) = x := ⟨_, rfl⟩
      obtain ⟨y, hy⟩ : ∃ y, rootI b.length (crownL sumL b) = y := ⟨_, rfl⟩
      rw [hx] at R1 HE heb lr1
      rw [hy] at R2 HE heb lr2
      have hU := fun w1 => runlike_any x y (by omega) (by omega) w1
      obtain ⟨s, u, bb, hf⟩ := unV_form (unL sumL x y)
      rw [hf] at hU
      have HFF : Hid (unV (differL sumL a b) = .tuple #[.string ⟨s.toArray⟩, .string ⟨u.toArray⟩, .bool bb]) := by rw [HE.out]; exact hf
      obtain ⟨c, hc⟩ : ∃ c, crownL sumL a = c := ⟨_, rfl⟩
      obtain ⟨d, hd⟩ : ∃ d, crownL sumL b = d := ⟨_, rfl⟩
      rw [hc] at C1 R1
      rw [hd] at C2 R2
      have i1 : ¬ (4096 : Int) < (a.length : Int) := by omega
      have i2 : ¬ (4096 : Int) < (b.length : Int) := by omega
      clear hTa hTb hxy hx hy hbig hc hd lc1 lc2 hf
      go_enter Tryd.func30, Tryd.ntmps30
      go_wp2_with fail
      refine (C1.out w (Below.refl _ _)).mono ?_
      rintro e w1 ⟨rfl, hw1⟩
      go_wp2_with fail
      refine (R1 w1).mono ?_
      rintro e w2 ⟨rfl, hw2⟩
      have hbw2 := bel_trans hw1 hw2
      go_wp2_with fail
      refine (C2.out w2 hbw2).mono ?_
      rintro e w3 ⟨rfl, hw3⟩
      go_wp2_with fail
      refine (R2 w3).mono ?_
      rintro e w4 ⟨rfl, hw4⟩
      have hbw4 := bel_trans (bel_trans hbw2 hw3) hw4
      go_wp2_with fail
      refine (hU w4).mono ?_
      rintro e w5 ⟨rfl, hw5⟩
      go_wp2_with fail
      go_ret3
      exact ⟨by rw [HFF.out]; rfl, bel_trans hbw4 hw5⟩
end Go.Proofs.YtlkkdfopecbekaaDoor
namespace Go.Proofs.YtlkkdfopecbekaaDoor
set_option maxRecDepth 100000
open Go.RowKit
attribute [local go_sem] ba_size ba_get ba_extract ba_append wrap_byte wrap_u64_byte take_drop_end
theorem list_ne_of_get {a b : List (List UInt8)} {k : Nat} (ha : k < a.length) (hb : k < b.length) (h : a[k] ≠ b[k]) : a ≠ b := by
  rintro rfl; exact h rfl
theorem take_eq_succ {a b : List (List UInt8)} {k : Nat} (ha : k < a.length) (hb : k < b.length) (h : a.take k = b.take k) (h2 : a[k] = b[k]) : a.take (k + 1) = b.take (k + 1) := by
  rw [List.take_succ_eq_append_getElem ha, List.take_succ_eq_append_getElem hb, h, h2]
set_option maxHeartbeats 1000000 in
theorem same_any (a1 a2 : Option Addr) (n1 n2 c1 c2 : Nat) (ss tt : List (List UInt8)) (w : World) (h1 : IsStrs w a1 n1 ss) (h2 : IsStrs w a2 n2 tt) :
    Calls Tryd.prog 18 #[.slice a1 n1 c1, .slice a2 n2 c2] w fun e w' => e = .returned (.bool (decide (ss = tt))) ∧ Below w.heap.size w w' := by
  have hb1 : n1 ≤ 140737488351232 := h1.2.2.1
  have hb2 : n2 ≤ 140737488351232 := h2.2.2.1
  by_cases hn : n1 = n2
  · subst hn
    by_cases h0 : n1 = 0
    · have e1 : ss = [] := List.length_eq_zero_iff.1 (h1.1.trans h0)
      have e2 : tt = [] := List.length_eq_zero_iff.1 (h2.1.trans h0)
      subst e1 e2 h0
      go_enter Tryd.func18, Tryd.ntmps18
      go_wp2
      go_loop [5] (fun i => i = .int .i64 0) (fun _ => 0)
      case atStart => rfl
      case round =>
        obtain rfl := hrel
        go_wp2
        go_ret
        exact ⟨rfl, Below.refl _ _⟩
    · obtain ⟨x1, o1, rfl, hx1, HC1⟩ := h1.at (by omega)
      obtain ⟨x2, o2, rfl, hx2, HC2⟩ := h2.at (by omega)
      have HL1 : Hid (ss.length = n1) := h1.1
      have HL2 : Hid (tt.length = n1) := h2.1
      clear h1 h2 hb2
      have hbne : ((n1 : Int) != (n1 : Int)) = false := by simp
      go_enter Tryd.func18, Tryd.ntmps18
      go_wp2
      go_loopw [5] (fun i wr => ∃ k : Nat, k ≤ n1 ∧ i = .int .i64 k ∧ Hid (ss.take k = tt.take k) ∧ Below w.heap.size w wr) (fun i _ => n1 - (intOf i).toNat)
      case atStart => exact ⟨0, Nat.zero_le _, rfl, rfl, Below.refl _ _⟩
      case round =>
        obtain ⟨k, hk, rfl, HT, hbw⟩ := hrel
        by_cases hlt : k < n1
        · have hk1 : k < ss.length := by have := HL1.out; omega
          have hk2 : k < tt.length := by have := HL2.out; omega
          have hc1 : wr.cell? ⟨x1, o1 + k, none⟩ = some (.string ⟨ss[k].toArray⟩) := (hbw.cell (p := ⟨x1, o1 + k, none⟩) hx1).trans (HC1.out k hk1)
          have hc2 : wr.cell? ⟨x2, o2 + k, none⟩ = some (.string ⟨tt[k].toArray⟩) := (hbw.cell (p := ⟨x2, o2 + k, none⟩) hx2).trans (HC2.out k hk2)
          by_cases he : ss[k] = tt[k]
          · have HE : Hid (ss[k] = tt[k]) := he
            have heb : (ss[k] == tt[k]) = true := by simp [he]
            clear he
            go_wp2
            go_quiet (fail)
            go_wp2
            go_roundw
            case rel => exact ⟨k + 1, by omega, by go_num, take_eq_succ hk1 hk2 HT.out HE.out, below_drewN hbw _⟩
            case measure => simp [intOf]; omega
          · have HF : Hid (decide (ss = tt) = false) := by
              show decide (ss = tt) = false
              exact decide_eq_false (list_ne_of_get hk1 hk2 he)
            have heb : (ss[k] == tt[k]) = false := by simp [he]
            clear he
            go_wp2
            go_quiet (fail)
            go_wp2
            go_ret
            refine ⟨?_, below_drewN hbw _⟩
            rw [HF.out]
            rfl
        · have HF : Hid (decide (ss = tt) = true) := by
            show decide (ss = tt) = true
            apply decide_eq_true
            have h := HT.out
            rwa [List.take_of_length_le (by have := HL1.out; omega), List.take_of_length_le (by have := HL2.out; omega)] at h
          go_wp2
          go_ret
          refine ⟨?_, hbw⟩
          rw [HF.out]
          rfl
  · have HF : Hid (decide (ss = tt) = false) := by
      show decide (ss = tt) = false
      apply decide_eq_false
      rintro rfl
      exact hn (h1.1.symm.trans h2.1)
    have hbne : ((n1 : Int) == (n2 : Int)) = false := by simp; omega
    clear h1 h2
    go_enter Tryd.func18, Tryd.ntmps18
    go_wp2
    go_ret
    refine ⟨?_, Below.refl _ _⟩
    rw [HF.out]
    rfl
end Go.Proofs.YtlkkdfopecbekaaDoor
namespace Go.Proofs.YtlkkdfopecbekaaDoor
set_option maxRecDepth 100000
open Go.RowKit
attribute [local go_sem] ba_size ba_get ba_extract ba_append wrap_byte wrap_u64_byte take_drop_end
set_option maxHeartbeats 1000000 in
theorem same_txt (v1 v2 : Value) (ss tt : List (List UInt8)) (w : World) (h1 : IsTxt w v1 ss) (h2 : IsTxt w v2 tt) :
    Calls Tryd.prog 18 #[v1, v2] w fun e w' => e = .returned (.bool (decide (ss = tt))) ∧ Below w.heap.size w w' := by
  by_cases hn : ss.length = tt.length
  · by_cases h0 : ss.length = 0
    · have e1 : ss = [] := List.length_eq_zero_iff.1 h0
      have e2 : tt = [] := List.length_eq_zero_iff.1 (hn.symm.trans h0)
      subst e1 e2
      obtain ⟨a1, c1, rfl, _, _, _⟩ := h1.len
      obtain ⟨a2, c2, rfl, _, _, _⟩ := h2.len
      clear h1 h2 hn h0
      go_enter Tryd.func18, Tryd.ntmps18
      go_wp2
      go_loop [5] (fun i => i = .int .i64 0) (fun _ => 0)
      case atStart => rfl
      case round =>
        obtain rfl := hrel
        go_wp2
        go_ret
        exact ⟨rfl, Below.refl _ _⟩
    · obtain ⟨x1, o1, c1, rfl, hx1, hq1, hq2, hb1, HC1⟩ := h1.at (by omega)
      obtain ⟨x2, o2, c2, rfl, hx2, hq3, hq4, hb2, HC2⟩ := h2.at (by omega)
      obtain ⟨n1, hn1⟩ : ∃ n1, ss.length = n1 := ⟨_, rfl⟩
      have hn2 : tt.length = n1 := by omega
      have HL1 : Hid (ss.length = n1) := hn1
      have HL2 : Hid (tt.length = n1) := hn2
      rw [hn1] at hb1 hq1 h0 ⊢
      rw [hn2] at hq3 ⊢
      clear h1 h2 hb2 hn hn1 hn2
      have hbne : ((n1 : Int) != (n1 : Int)) = false := by simp
      go_enter Tryd.func18, Tryd.ntmps18
      go_wp2
      go_loopw [5] (fun i wr => ∃ k : Nat, k ≤ n1 ∧ i = .int .i64 k ∧ Hid (ss.take k = tt.take k) ∧ Below w.heap.size w wr) (fun i _ => n1 - (intOf i).toNat)
      case atStart => exact ⟨0, Nat.zero_le _, rfl, rfl, Below.refl _ _⟩
      case round =>
        obtain ⟨k, hk, rfl, HT, hbw⟩ := hrel
        by_cases hlt : k < n1
        · have hk1 : k < ss.length := by have := HL1.out; omega
          have hk2 : k < tt.length := by have := HL2.out; omega
          have hc1 : wr.cell? ⟨x1, o1 + k, none⟩ = some (.string ⟨ss[k].toArray⟩) := (hbw.cell (p := ⟨x1, o1 + k, none⟩) hx1).trans (HC1.out k hk1)
          have hc2 : wr.cell? ⟨x2, o2 + k, none⟩ = some (.string ⟨tt[k].toArray⟩) := (hbw.cell (p := ⟨x2, o2 + k, none⟩) hx2).trans (HC2.out k hk2)
          by_cases he : ss[k] = tt[k]
          · have HE : Hid (ss[k] = tt[k]) := he
            have heb : (ss[k] == tt[k]) = true := by simp [he]
            clear he
            go_wp2
            go_quiet (fail)
            go_wp2
            go_roundw
            case rel => exact ⟨k + 1, by omega, by go_num, take_eq_succ hk1 hk2 HT.out HE.out, below_drewN hbw _⟩
            case measure => simp [intOf]; omega
          · have HF : Hid (decide (ss = tt) = false) := by
              show decide (ss = tt) = false
              exact decide_eq_false (list_ne_of_get hk1 hk2 he)
            have heb : (ss[k] == tt[k]) = false := by simp [he]
            clear he
            go_wp2
            go_quiet (fail)
            go_wp2
            go_ret
            refine ⟨?_, below_drewN hbw _⟩
            rw [HF.out]
            rfl
        · have HF : Hid (decide (ss = tt) = true) := by
            show decide (ss = tt) = true
            apply decide_eq_true
            have h := HT.out
            rwa [List.take_of_length_le (by have := HL1.out; omega), List.take_of_length_le (by have := HL2.out; omega)] at h
          go_wp2
          go_ret
          refine ⟨?_, hbw⟩
          rw [HF.out]
          rfl
  · have HF : Hid (decide (ss = tt) = false) := by
      show decide (ss = tt) = false
      apply decide_eq_false
      rintro rfl
      exact hn rfl
    obtain ⟨a1, c1, rfl, _, _, _⟩ := h1.len
    obtain ⟨a2, c2, rfl, _, _, _⟩ := h2.len
    have hbne : ((ss.length : Int) == (tt.length : Int)) = false := by rw [beq_eq_false_iff_ne]; omega
    clear h1 h2
    go_enter Tryd.func18, Tryd.ntmps18
    go_wp2
    go_ret
    refine ⟨?_, Below.refl _ _⟩
    rw [HF.out]
    rfl
end Go.Proofs.YtlkkdfopecbekaaDoor
