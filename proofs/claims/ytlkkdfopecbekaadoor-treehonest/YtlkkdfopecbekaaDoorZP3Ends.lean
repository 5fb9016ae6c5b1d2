/-
  What tree.Clash and tree.Differ answer.
-/
import Derived.Test.YtlkkdfopecbekaaDoorZP3Check
import Derived.Test.YtlkkdfopecbekaaDoorZP3All
import Derived.Test.YtlkkdfopecbekaaDoorZP3Un
namespace Go.Proofs.YtlkkdfopecbekaaDoor
set_option maxRecDepth 100000
open Go.RowKit
set_option linter.unusedVariables false
attribute [local go_sem] ba_size
theorem unVform (O : Option (List UInt8 × List UInt8)) : ∃ (x y : List UInt8) (b : Bool), unV O = .tuple #[.string ⟨x.toArray⟩, .string ⟨y.toArray⟩, .bool b] := by
  cases O with
  | none => exact ⟨[], [], false, rfl⟩
  | some z => exact ⟨z.1, z.2, true, rfl⟩
theorem climb_lens (sm : List UInt8 → List UInt8) (h32 : ∀ s, (sm s).length = 32) (n i : Int) (a : List UInt8) (p : List (List UInt8)) (b : List UInt8) (q : List (List UInt8)) (h1 : (climbL sm n i a p).2 = 0) (h2 : (climbL sm n i b q).2 = 0) : (climbL sm n i a p).1.length = (climbL sm n i b q).1.length := by
  obtain ⟨hb, hp, x, hx, ex⟩ := climb_ok sm _ _ _ _ h1
  obtain ⟨_, hq, y, hy, ey⟩ := climb_ok sm _ _ _ _ h2
  have hL := (inL_link sm h32 n.toNat n.toNat i.toNat a b p q x y rfl hp hq hx hy).1.1
  rw [ex, ey, List.length_append, List.length_append, hL]; rfl
set_option maxHeartbeats 1000000 in
theorem pclash_in (n i : Int) (a : List UInt8) (ha : a.length ≤ 1125899906842500) (p : List (List UInt8)) (va : Value) (b : List UInt8) (hb : b.length ≤ 1125899906842500) (q : List (List UInt8)) (vb : Value) (w : World) (hG : G w) (hTa : IsTxt w va p) (hTb : IsTxt w vb q) :
    Calls Tryd.prog 46 #[sumF, .int .i64 n, .int .i64 i, .string ⟨a.toArray⟩, va, .string ⟨b.toArray⟩, vb] w fun e w' => e = .returned (unV (clashL sumL n i a p b q)) ∧ Below w.heap.size w w' := by
  have hg3 := hG.size
  have C1' := pclimb_any n i a ha p va w hG hTa
  have C2 := fun w1 h1 h => pclimb_any n i b hb q vb w1 h1 h
  have R1 := climb_rows sumL sumL_len32 n i a p
  have R2 := climb_rows sumL sumL_len32 n i b q
  have RL := climb_lens sumL sumL_len32 n i a p b q
  have HK : Hid (clashL sumL n i a p b q = if (climbL sumL n i a p).2 ≠ 0 ∨ (climbL sumL n i b q).2 ≠ 0 then none else backL sumL (climbL sumL n i a p).1 (climbL sumL n i b q).1 (climbL sumL n i a p).1.length) := (rfl : _ = _)
  obtain ⟨Ca, hCa⟩ : ∃ C, climbL sumL n i a p = C := ⟨_, rfl⟩
  obtain ⟨Cb, hCb⟩ : ∃ C, climbL sumL n i b q = C := ⟨_, rfl⟩
  rw [hCa] at C1' R1 RL HK
  rw [hCb] at C2 R2 RL HK
  obtain ⟨X, e1⟩ := Ca
  obtain ⟨Y, e2⟩ := Cb
  simp only at R1 R2 RL
  obtain ⟨O, hO⟩ : ∃ O, clashL sumL n i a p b q = O := ⟨_, rfl⟩
  rw [hO] at HK ⊢
  clear hO hCa hCb
  have hTb' := hTb
  obtain ⟨aa, capa, rfl, _, _, _⟩ := hTa.len
  obtain ⟨ab, capb, rfl, _, _, _⟩ := hTb.len
  have C2' : Hid (∀ w1, Below w.heap.size w w1 → Calls Tryd.prog 44 #[sumF, .int .i64 n, .int .i64 i, .string ⟨b.toArray⟩, .slice ab q.length capb] w1 fun e w' => ClRes w1 (Y, e2) e w') := fun w1 h => C2 w1 (hG.below h hg3) (hTb'.below h)
  clear C2 hTa hTb hTb'
  by_cases h1 : e1 = 0
  · subst h1
    by_cases h2 : e2 = 0
    · subst h2
      have hlen := RL rfl rfl
      obtain ⟨f1, f2, f3⟩ := R1 rfl
      obtain ⟨g1, g2, g3⟩ := R2 rfl
      have HB : Hid (O = fuL sumL X Y) := by have := HK.out; rw [if_neg (by simp), ← fuL_back sumL X Y hlen] at this; exact this
      have HF1 : Hid (∀ t ∈ X, t.length ≤ 1125899906842624) := fun t ht => by have := f3 t ht; omega
      have HF2 : Hid (∀ t ∈ Y, t.length ≤ 1125899906842624) := fun t ht => by have := g3 t ht; omega
      clear HK R1 R2 RL hlen f3 g3
      go_enter Tryd.func46, Tryd.ntmps46
      go_wp2_with fail
      refine C1'.mono ?_
      rintro e w1 hres
      obtain ⟨r1, rfl, hb1, own1⟩ := hres
      go_wp2_with fail
      refine (C2'.out w1 hb1).mono ?_
      rintro e w2 hres
      obtain ⟨r2, rfl, hb2, own2⟩ := hres
      have hbw2 := bel_trans hb1 hb2
      have X1 : IsTxt w2 r1 X := (IsTxt.own own1 (by show X.length ≤ _; omega) HF1.out).below hb2
      have Y1 : IsTxt w2 r2 Y := IsTxt.own own2 (by show Y.length ≤ _; omega) HF2.out
      have hU := pun_any X Y r1 r2 w2 (hG.below hbw2 hg3) X1 Y1 (by omega) (by omega)
      rw [← HB.out] at hU
      obtain ⟨s, u, bb, hf⟩ := unVform O
      have HF : Hid (unV O = .tuple #[.string ⟨s.toArray⟩, .string ⟨u.toArray⟩, .bool bb]) := hf
      rw [hf] at hU
      clear hf own1 own2 X1 Y1 C1' C2'
      go_wp2_with fail
      refine hU.mono ?_
      rintro e w3 ⟨rfl, hb3⟩
      go_wp2_with fail
      go_ret3
      exact ⟨by rw [HF.out]; rfl, bel_trans hbw2 hb3⟩
    · have HE : Hid (O = none) := by have := HK.out; rw [if_pos (Or.inr h2)] at this; exact this
      have i1 : ((e2 : Int) != 0) = true := by rw [bne_iff_ne]; omega
      have i2 : ¬ (e2 : Int) = 0 := by omega
      clear HK R1 R2 RL
      go_enter Tryd.func46, Tryd.ntmps46
      go_wp2_with fail
      refine C1'.mono ?_
      rintro e w1 hres
      obtain ⟨r1, rfl, hb1, own1⟩ := hres
      go_wp2_with fail
      refine (C2'.out w1 hb1).mono ?_
      rintro e w2 hres
      obtain ⟨r2, rfl, hb2, own2⟩ := hres
      go_wp2_with fail
      go_ret3
      exact ⟨by rw [HE.out]; rfl, bel_trans hb1 hb2⟩
  · have HE : Hid (O = none) := by have := HK.out; rw [if_pos (Or.inl h1)] at this; exact this
    have i1 : ((e1 : Int) != 0) = true := by rw [bne_iff_ne]; omega
    have i2 : ¬ (e1 : Int) = 0 := by omega
    clear HK R1 R2 RL
    go_enter Tryd.func46, Tryd.ntmps46
    go_wp2_with fail
    refine C1'.mono ?_
    rintro e w1 hres
    obtain ⟨r1, rfl, hb1, own1⟩ := hres
    go_wp2_with fail
    go_ret3
    exact ⟨by rw [HE.out]; rfl, hb1⟩
set_option maxHeartbeats 400000 in
theorem pClash_any (n i : Int) (a : List UInt8) (ha : a.length ≤ 1125899906842500) (p : List (List UInt8)) (va : Value) (b : List UInt8) (hb : b.length ≤ 1125899906842500) (q : List (List UInt8)) (vb : Value) (w : World) (hG : G w) (hTa : IsTxt w va p) (hTb : IsTxt w vb q) :
    Calls Tryd.prog 27 #[.int .i64 n, .int .i64 i, .string ⟨a.toArray⟩, va, .string ⟨b.toArray⟩, vb] w fun e w' => e = .returned (unV (clashL sumL n i a p b q)) ∧ Below w.heap.size w w' := by
  have hU := pclash_in n i a ha p va b hb q vb w hG hTa hTb
  obtain ⟨aa, capa, rfl, _, _, _⟩ := hTa.len
  obtain ⟨ab, capb, rfl, _, _, _⟩ := hTb.len
  obtain ⟨s, u, bb, hf⟩ := unVform (clashL sumL n i a p b q)
  rw [hf] at hU ⊢
  clear hf hTa hTb
  go_enter Tryd.func27, Tryd.ntmps27
  go_wp2_with fail
  refine hU.mono ?_
  rintro e w3 ⟨rfl, hb3⟩
  go_wp2_with fail
  go_ret3
  exact ⟨rfl, hb3⟩
theorem allI_facts (a : List (List UInt8)) (h4 : a.length ≤ 4096) (hb : ∀ s ∈ a, s.length ≤ 1125899906842600) : (allI sumL a).length ≤ 10000 ∧ ∀ t ∈ allI sumL a, t.length ≤ 1125899906842624 := by
  have h1 := insL_len sumL a.length a rfl
  have h2 := insL_bound sumL sumL_len32 1125899906842600 (by omega) a.length a rfl hb
  have h3 := rootI_len a.length (crownL sumL a) (crownL_le32 sumL sumL_len32 a)
  unfold allI
  refine ⟨by rw [List.length_append, List.length_singleton]; omega, fun t ht => ?_⟩
  rcases List.mem_append.1 ht with h | h
  · have := h2 t h; omega
  · rw [List.mem_singleton] at h; rw [h]; omega
set_option maxHeartbeats 1000000 in
theorem pdiffer_in (a b : List (List UInt8)) (va vb : Value) (w : World) (hG : G w) (hTa : IsTxt w va a) (hTb : IsTxt w vb b) (hba : ∀ s ∈ a, s.length ≤ 1125899906842600) (hbb : ∀ s ∈ b, s.length ≤ 1125899906842600) :
    Calls Tryd.prog 48 #[sumF, va, vb] w fun e w' => e = .returned (unV (differL sumL a b)) ∧ Below w.heap.size w w' := by
  have hg3 := hG.size
  by_cases hbig : 4096 < a.length ∨ 4096 < b.length
  · have HE : Hid (differL sumL a b = none) := by show differL sumL a b = none; unfold differL; rw [if_pos hbig]
    obtain ⟨aa, capa, rfl, _, _, _⟩ := hTa.len
    obtain ⟨ab, capb, rfl, _, _, _⟩ := hTb.len
    clear hTa hTb
    by_cases h1 : 4096 < a.length
    · have i0 : (4096 : Int) < (a.length : Int) := by omega
      go_enter Tryd.func48, Tryd.ntmps48
      go_wp2_with fail
      go_ret3
      exact ⟨by rw [HE.out]; rfl, Below.refl _ _⟩
    · have i0 : ¬ (4096 : Int) < (a.length : Int) := by omega
      have i1 : (4096 : Int) < (b.length : Int) := by omega
      go_enter Tryd.func48, Tryd.ntmps48
      go_wp2_with fail
      go_ret3
      exact ⟨by rw [HE.out]; rfl, Below.refl _ _⟩
  · have HE : Hid (differL sumL a b = fuL sumL (allI sumL a) (allI sumL b)) := differ_all sumL sumL_len32 a b (by omega) (by omega)
    have A1 := pall_any a va w hG hTa (by omega)
    have A2 : Hid (∀ w1, Below w.heap.size w w1 → Calls Tryd.prog 63 #[sumF, vb] w1 fun e w' => AllRes w1 (allI sumL b) e w') := fun w1 h => pall_any b vb w1 (hG.below h hg3) (hTb.below h) (by omega)
    obtain ⟨f1, f2⟩ := allI_facts a (by omega) hba
    obtain ⟨g1, g2⟩ := allI_facts b (by omega) hbb
    obtain ⟨aa, capa, rfl, _, _, _⟩ := hTa.len
    obtain ⟨ab, capb, rfl, _, _, _⟩ := hTb.len
    obtain ⟨O, hO⟩ : ∃ O, differL sumL a b = O := ⟨_, rfl⟩
    rw [hO] at HE ⊢
    obtain ⟨X, hX⟩ : ∃ X, allI sumL a = X := ⟨_, rfl⟩
    obtain ⟨Y, hY⟩ : ∃ Y, allI sumL b = Y := ⟨_, rfl⟩
    rw [hX] at A1 f1 f2 HE
    rw [hY] at A2 g1 g2 HE
    have HF1 : Hid (∀ t ∈ X, t.length ≤ 1125899906842624) := f2
    have HF2 : Hid (∀ t ∈ Y, t.length ≤ 1125899906842624) := g2
    have i0 : ¬ (4096 : Int) < (a.length : Int) := by omega
    have i1 : ¬ (4096 : Int) < (b.length : Int) := by omega
    clear hO hX hY f2 g2 hTa hTb
    go_enter Tryd.func48, Tryd.ntmps48
    go_wp2_with fail
    refine A1.mono ?_
    rintro e w1 hres
    obtain ⟨r1, rfl, own1, hb1⟩ := hres
    go_wp2_with fail
    refine (A2.out w1 hb1).mono ?_
    rintro e w2 hres
    obtain ⟨r2, rfl, own2, hb2⟩ := hres
    have hbw2 := bel_trans hb1 hb2
    have X1 : IsTxt w2 r1 X := (IsTxt.own own1 (by show X.length ≤ _; omega) HF1.out).below hb2
    have Y1 : IsTxt w2 r2 Y := IsTxt.own own2 (by show Y.length ≤ _; omega) HF2.out
    have hU := pun_any X Y r1 r2 w2 (hG.below hbw2 hg3) X1 Y1 (by omega) (by omega)
    rw [← HE.out] at hU
    obtain ⟨s, u, bb, hf⟩ := unVform O
    have HF : Hid (unV O = .tuple #[.string ⟨s.toArray⟩, .string ⟨u.toArray⟩, .bool bb]) := hf
    rw [hf] at hU
    clear hf own1 own2 X1 Y1 A1 A2
    go_wp2_with fail
    refine hU.mono ?_
    rintro e w3 ⟨rfl, hb3⟩
    go_wp2_with fail
    go_ret3
    exact ⟨by rw [HF.out]; rfl, bel_trans hbw2 hb3⟩
set_option maxHeartbeats 400000 in
theorem pDiffer_any (a b : List (List UInt8)) (va vb : Value) (w : World) (hG : G w) (hTa : IsTxt w va a) (hTb : IsTxt w vb b) (hba : ∀ s ∈ a, s.length ≤ 1125899906842600) (hbb : ∀ s ∈ b, s.length ≤ 1125899906842600) :
    Calls Tryd.prog 29 #[va, vb] w fun e w' => e = .returned (unV (differL sumL a b)) ∧ Below w.heap.size w w' := by
  have hU := pdiffer_in a b va vb w hG hTa hTb hba hbb
  obtain ⟨aa, capa, rfl, _, _, _⟩ := hTa.len
  obtain ⟨ab, capb, rfl, _, _, _⟩ := hTb.len
  obtain ⟨s, u, bb, hf⟩ := unVform (differL sumL a b)
  rw [hf] at hU ⊢
  clear hf hTa hTb
  go_enter Tryd.func29, Tryd.ntmps29
  go_wp2_with fail
  refine hU.mono ?_
  rintro e w3 ⟨rfl, hb3⟩
  go_wp2_with fail
  go_ret3
  exact ⟨rfl, hb3⟩
end Go.Proofs.YtlkkdfopecbekaaDoor
