/-
  What edges.All answers.
-/
import Derived.Test.YteehpkkkagdckaaZP10Key
import Derived.Test.YteehpkkkagdckaaZP8Keys
import Derived.Test.YteehpkkkagdckaaGE
namespace Go.Proofs.Yteehpkkkagdckaa
set_option maxRecDepth 100000
open Go.RowKit Go.Maps
set_option linter.unusedVariables false
attribute [local go_sem] ba_size
theorem str_cell {W : World} {B g n cc m : Nat} {K : List (List UInt8)} (hn : K.length = n) (h : W.ownsRow B 9 1 (.slice (some ⟨g, 0, none⟩) n cc) n (strV K)) (hm : m < n) (hm2 : m < K.length) : W.cell? ⟨g, m, none⟩ = some (.string ⟨K[m].toArray⟩) := by
  have c := h.cellAt m (by omega)
  rw [c]
  simp [strV, List.getElem?_eq_getElem hm2]
set_option maxHeartbeats 4000000 in
theorem pall10_any (h : List Ev) (v : Value) (w : World) (hT : IsEvs w v h) (hG : ∀ x ∈ h, goodE x) (hl : h.length ≤ 300) :
    Calls Try.prog 13 #[v] w fun e w' => EdRow 24 w (edgesL h) e w' := by
  obtain ⟨a, cap, rfl, h1, h2, h3, HC⟩ := hT.reads
  have B0 : Below w.heap.size w ((w.alloc (.cells #[.slice a h.length cap] 22)).alloc (.cells #[.slice none 0 0] 28)) := ((Below.refl _ w).alloc (Nat.le_refl _) _).alloc (by simp) _
  have hS0 : GSt w (.slice a h.length cap) (.slice none 0 0) (eTo h 0) ((w.alloc (.cells #[.slice a h.length cap] 22)).alloc (.cells #[.slice none 0 0] 28)) := by
    have x1 := Boxed.new (w.alloc (.cells #[.slice a h.length cap] 22)) 28 (.slice none 0 0)
    rw [World.size_alloc] at x1
    exact ⟨B0, by simp, (Boxed.new w 22 (.slice a h.length cap)).alloc _, x1, World.ownsRow_nil _ _ _ _, fun g hg => by simp [Value.ownBlock] at hg⟩
  have CK := pkeys8_any h (.slice a h.length cap) _ (hT.below B0) hG hl
  have CF := fun v' L W' hS' key hL => pofkey_any h w a cap hT hG hl v' L W' hS' key hL
  have hkl := keys_len h
  have hel := eTo_len h 300 hl
  have HEA : Hid (eTo h (keysL h).length = edgesL h) := eTo_all h
  have hnx := eTo_next h
  obtain ⟨K, hK⟩ : ∃ K, keysL h = K := ⟨_, rfl⟩
  have HK : Hid (keysL h = K) := hK
  rw [hK] at CK hkl hel HEA
  obtain ⟨n, hn⟩ : ∃ n, K.length = n := ⟨_, rfl⟩
  have HN : Hid (K.length = n) := hn
  have HEL : Hid (∀ k, k ≤ K.length → (eTo h k).length ≤ k * (3 * 300)) := hel
  have HNX : Hid (∀ k (hk : k < K.length), eTo h (k + 1) = eTo h k ++ keyEdges h K[k]) := fun k hk => by subst hK; exact hnx k hk
  obtain ⟨nh, hnh⟩ : ∃ nh, h.length = nh := ⟨_, rfl⟩
  rw [hn] at hkl
  rw [hnh] at CK CF hS0 B0 h1 h3 hl hkl ⊢
  clear hK hnx hel hn hT hG HC hnh
  have p0 := hS0.b0.cell
  go_enter Try.func13, Try.ntmps13
  go_wp2_with fail
  refine CK.mono ?_
  rintro e1 w1 ⟨vk, rfl, b1, hk1⟩
  rw [HN.out] at hk1
  have hS1 := hS0.bel b1
  clear CK hS0 p0 B0
  obtain ⟨adk, ck, rfl⟩ := own_shape hk1
  go_wp2_with fail
  go_loopw [11] (fun i wr => ∃ (k : Nat) (v' : Value), k ≤ n ∧ i = .int .i64 k ∧ FrG w1 wr ∧ GSt w (.slice a nh cap) v' (eTo h k) wr) (fun i _ => n - (intOf i).toNat)
  case atStart => exact ⟨0, _, Nat.zero_le _, rfl, FrG.refl _, hS1⟩
  case round =>
    obtain ⟨k, v', hk, rfl, FK, hSk⟩ := hrel
    have hkk := FK.owns hk1 (by decide) (by decide)
    have c0 := hSk.b0.cell
    by_cases hlt : k < n
    · have j0 : (k : Int) < (n : Int) := by omega
      obtain ⟨g, cc, e, k1, k2⟩ := own_some hkk (by omega)
      cases e
      have hk2 : k < K.length := by rw [HN.out]; exact hlt
      have x0 := str_cell HN.out hkk hlt hk2
      have HX := HNX.out k hk2
      have hel := HEL.out k (by omega)
      obtain ⟨key, hkey⟩ : ∃ key, K[k] = key := ⟨_, rfl⟩
      rw [hkey] at x0 HX
      have HXX : Hid (eTo h (k + 1) = eTo h k ++ keyEdges h key) := HX
      clear hkey HX
      go_wp2_with fail
      refine (CF _ _ _ hSk key (by omega)).mono ?_
      rintro e4 w4 ⟨rfl, fr4, v4, hS4⟩
      go_wp2_with fail
      refine ⟨⟨k + 1, v4, by omega, by first | go_num | simp, FK.trans fr4, by rw [HXX.out]; exact hS4⟩, by simp [intOf]; omega⟩
    · obtain rfl : k = n := by omega
      have jq : ¬ (k : Int) < (k : Int) := by omega
      have q1 := hSk.bv.cell
      obtain ⟨ad, cc, rfl⟩ := own_shape hSk.row
      go_wp2_with fail
      go_ret
      have hr := hSk.row
      have e : eTo h k = edgesL h := by rw [← HEA.out, HN.out]
      rw [e] at hr
      refine ⟨_, rfl, hSk.below, ?_⟩
      have hlen : (edgesL h).length = (eTo h k).length := by rw [e]
      rw [← hlen]
      exact hr
end Go.Proofs.Yteehpkkkagdckaa
