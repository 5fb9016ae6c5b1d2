/-
  What cartoucheref02.Hex answers.
-/
import Derived.Test.YthdikknjabdfeaaDoorMarkS
import Derived.Test.YthdikknjabdfeaaDoorP2Hex
import Derived.Test.YthdikknjabdfeaaDoorHeads
namespace Go.Proofs.YthdikknjabdfeaaDoor
open Go.RowKit
set_option linter.unusedVariables false
attribute [local go_sem] ba_size ba_get
theorem owns_string0 {P : Program} {w : World} {base : Nat} {e : TypeId} {v : Value} (h : w.ownsRow base e 1 v 0 []) (src dst : TypeId) (hs : P.underlying src = some (.slice e)) (he : P.underlying e = some (.int .u8)) (hd : P.underlying dst = some .string) :
    (convert src dst v).run P w = .ok (.string ⟨#[]⟩) w := by
  obtain ⟨h1, h2⟩ := h
  rcases h2 with ⟨rfl, hn⟩ | ⟨g, cap, cur, rfl, hbg, hg, r⟩
  · rw [run_convert_bytes_string w src dst e none 0 0 hs he hd]; rfl
  · exact run_convert_bytes_back (P := P) w src dst e ⟨g, 0, none⟩ cap [] hs he hd (fun j hj => by simp at hj)
set_option maxHeartbeats 2000000 in
theorem rhex_any (S : List UInt8) (hS : 2 * S.length ≤ 140737488355328) (w : World) :
    Calls Tryd.prog 19 #[.string ⟨S.toArray⟩] w fun e w' => e = .returned (.string ⟨(hexL S).toArray⟩) ∧ Below w.heap.size w w' := by
  obtain ⟨i0, hi, hz0, hz1, hz2⟩ := info_parts byte_info
  go_enter Tryd.func19, Tryd.ntmps19
  go_wp2
  go_loopw [3, 4] (fun v i wr => ∃ k : Nat, k ≤ S.length ∧ i = .int .i64 k ∧ Hid (wr.ownsRow w.heap.size 5 1 v (2 * k) (Lib.byteCells (hexL (S.take k)))) ∧ Below w.heap.size w wr) (fun _ i _ => S.length - (intOf i).toNat)
  case atStart => exact ⟨0, by omega, rfl, World.ownsRow_nil _ _ _ _, Below.refl _ _⟩
  case round =>
    obtain ⟨k, hk, rfl, HO, hbw⟩ := hrel
    have hbs := hbw.size
    by_cases hlt : k < S.length
    · have j0 : (k : Int) < S.length := by omega
      have bl := S[k].toNat_lt
      have lt1 : (hexL (S.take k)).length = 2 * k := by rw [hexL_len]; simp; omega
      have g1 : S[k].toNat / 16 < FIG.length := by show _ < 16; omega
      have g2 : S[k].toNat % 16 < FIG.length := by show _ < 16; omega
      have hht := hexL_take S k hlt
      rw [← fig_of _ g1, ← fig_of _ g2] at hht
      have q0 : (S[k].toNat : Int) / 16 < 16 := by omega
      have q1 : (S[k].toNat : Int) % 16 < 16 := by omega
      have q2 : (0 : Int) ≤ (S[k].toNat : Int) / 16 := by omega
      have q3 : (0 : Int) ≤ (S[k].toNat : Int) % 16 := by omega
      have q4 : ((S[k].toNat : Int) / 16).toNat = S[k].toNat / 16 := by omega
      have q5 : ((S[k].toNat : Int) % 16).toNat = S[k].toNat % 16 := by omega
      have z1 : IntKind.u8.wrap ((S[k].toNat : Int) / 16) = (S[k].toNat : Int) / 16 := by rw [IntKind.wrap_u8]; omega
      have z2 : (S[k].toNat : Int).tmod 16 = (S[k].toNat : Int) % 16 := Int.tmod_eq_emod_of_nonneg (by omega)
      have z3 : IntKind.u8.wrap ((S[k].toNat : Int) % 16) = (S[k].toNat : Int) % 16 := by rw [IntKind.wrap_u8]; omega
      obtain ⟨x, hx⟩ : ∃ x, FIG[S[k].toNat / 16] = x := ⟨_, rfl⟩
      obtain ⟨y, hy⟩ : ∃ y, FIG[S[k].toNat % 16] = y := ⟨_, rfl⟩
      have HT : Hid (hexL (S.take k) ++ [x] ++ [y] = hexL (S.take (k + 1))) := by rw [← hx, ← hy]; exact hht
      clear hht
      go_wp2_with fail
      refine wp_region_any (by kernel_rfl) ?_
      change wpAny _ _ _ _ _ _ _ (World.drew _)
      refine wpAny_take (i := 0) (v := u3) rfl (by kernel_rfl) (by kernel_rfl) (by kernel_rfl) (fun _ _ _ h => h) (Or.inl ⟨by rfl, fun w => by go_simp⟩) ?_
      refine wpAny_take (i := 1) (v := .string ⟨S.toArray⟩) rfl (by kernel_rfl) (by kernel_rfl) (by kernel_rfl) (fun _ _ _ h => h) (Or.inl ⟨by rfl, fun w => by go_simp⟩) ?_
      refine wpAny_take (i := 2) (v := .int .i64 k) rfl (by kernel_rfl) (by kernel_rfl) (by kernel_rfl) (fun _ _ _ h => h) (Or.inl ⟨by rfl, fun w => by go_simp⟩) ?_
      refine wpAny_take (i := 3) (v := .int .u8 (S[k].toNat : Int)) rfl (by kernel_rfl) (by kernel_rfl) (by kernel_rfl) (fun _ _ _ h => h) (Or.inl ⟨by rfl, fun w => by go_simp⟩) ?_
      refine wpAny_take (i := 4) (v := .int .u8 ((S[k].toNat : Int) / 16)) rfl (by kernel_rfl) (by kernel_rfl) (by kernel_rfl) (fun _ _ _ h => h) (Or.inl ⟨by rfl, fun w => by go_simp⟩) ?_
      refine wpAny_take (i := 5) (v := .int .u8 (x.toNat : Int)) rfl (by kernel_rfl) (by kernel_rfl) (by kernel_rfl) (fun _ _ _ h => h) (Or.inl ⟨by rfl, fun w => by go_simp; exact congrArg (fun b : UInt8 => (b.toNat : Int)) hx⟩) ?_
      refine wpAny_take (i := 6) (v := .string ⟨S.toArray⟩) rfl (by kernel_rfl) (by kernel_rfl) (by kernel_rfl) (fun _ _ _ h => h) (Or.inl ⟨by rfl, fun w => by go_simp⟩) ?_
      refine wpAny_take (i := 7) (v := .int .i64 k) rfl (by kernel_rfl) (by kernel_rfl) (by kernel_rfl) (fun _ _ _ h => h) (Or.inl ⟨by rfl, fun w => by go_simp⟩) ?_
      refine wpAny_take (i := 8) (v := .int .u8 (S[k].toNat : Int)) rfl (by kernel_rfl) (by kernel_rfl) (by kernel_rfl) (fun _ _ _ h => h) (Or.inl ⟨by rfl, fun w => by go_simp⟩) ?_
      refine wpAny_take (i := 9) (v := .int .u8 ((S[k].toNat : Int) % 16)) rfl (by kernel_rfl) (by kernel_rfl) (by kernel_rfl) (fun _ _ _ h => h) (Or.inl ⟨by rfl, fun w => by go_simp⟩) ?_
      refine wpAny_take (i := 10) (v := .int .u8 (y.toNat : Int)) rfl (by kernel_rfl) (by kernel_rfl) (by kernel_rfl) (fun _ _ _ h => h) (Or.inl ⟨by rfl, fun w => by go_simp; exact congrArg (fun b : UInt8 => (b.toNat : Int)) hy⟩) ?_
      refine wpAny_ready (rs := [11]) (by kernel_rfl) (by simp) ?_
      refine AllReady.cons rfl (fun K' hK => ?_) AllReady.nil
      go_simp
      refine hK _ _ ?_
      clear hK K'
      refine any_seqI [12, 13] [_, _] _ _ _ rfl (by kernel_rfl) ?_
      refine wpList_append_own _ rfl _ _ 64 rfl w.heap.size 5 i0 (.int .u8 0) 1 1 Tryd.underlying64 hi hz0 hz1 hz2 rfl (by decide) _ _ _ rfl ((show wr.drew.ownsRow w.heap.size 5 1 u3 (2 * k) (Lib.byteCells (hexL (S.take k))) from HO.out).alloc _) ⟨wr.heap.size, 0, none⟩ 2 2 [.int .u8 (x.toNat : Int), .int .u8 (y.toNat : Int)] rfl rfl ?d1 ?d2 ?d3 ?d4 ?d5 ?_
      case d1 =>
        intro j u hj
        match j, hj with
        | 0, hj => simp at hj; subst hj; simp [Addr.add]
        | 1, hj => simp at hj; subst hj; simp [Addr.add]
      case d2 => intro u hu; simp at hu; rcases hu with rfl | rfl <;> rfl
      case d3 => unfold maxLen; omega
      case d4 => omega
      case d5 => simp; omega
      intro v' w2 hown2 hgrow2 _
      have hblk : ∀ k, (u3 : Value).ownBlock = some k → w.heap.size ≤ k := fun k hk => by
        rcases HO.out.2 with ⟨hv, _⟩ | ⟨g, cap, cur, hv, hbg, _⟩
        · rw [hv] at hk; simp [Value.ownBlock] at hk
        · rw [hv] at hk; simp [Value.ownBlock] at hk; omega
      have hbn : Below w.heap.size w w2 := (hbw.drew.alloc (by show w.heap.size ≤ wr.heap.size; omega) _).grown hgrow2 (by simp; omega) (fun k hk => hblk k hk)
      have HO2 : w2.ownsRow w.heap.size 5 1 v' (2 * (k + 1)) (Lib.byteCells (hexL (S.take (k + 1)))) := by
        rw [← HT.out, List.append_assoc, ← byteCells_append, Nat.mul_add]
        exact hown2
      clear hown2 hgrow2
      go_wp2_with fail
      refine ⟨?relH, ?measureH⟩
      case relH => exact ⟨k + 1, by omega, by go_num, HO2, hbn⟩
      case measureH => simp [intOf]; omega
    · obtain rfl : k = S.length := by omega
      have eT : S.take S.length = S := List.take_length
      have hO := HO.out
      rw [eT] at hO
      have hst : (convert 64 9 u3).run Tryd.prog wr = .ok (.string ⟨(hexL S).toArray⟩) wr := by
        by_cases h0 : S = []
        · subst h0
          exact owns_string0 (P := Tryd.prog) hO 64 9 Tryd.underlying64 Tryd.underlying5 Tryd.underlying9
        · exact owns_string (P := Tryd.prog) hO (by rw [hexL_len]; have := List.length_pos_iff.2 h0; omega) 64 9 Tryd.underlying64 Tryd.underlying5 Tryd.underlying9
      clear HO hO eT
      go_wp2_with fail
      go_ret
      exact ⟨rfl, hbw⟩
end Go.Proofs.YthdikknjabdfeaaDoor
