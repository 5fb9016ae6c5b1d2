/-
  A row of texts grown by one more, as cells; links of a row with one more body: of no program.
-/
import Derived.Test.YtgickejfcmnaiaaDoorZShown4
namespace Go.Proofs.YtgickejfcmnaiaaDoor
set_option maxRecDepth 100000
open Go.RowKit
set_option linter.unusedVariables false
theorem links_more (l : List (List UInt8)) (b h : List UInt8) (hh : headF sumL [] l = some h) (hb : b.length ≤ 65535) : linksL sumL (l ++ [b]) = (linksF sumL [] l ++ [(h, b)], 0) := by
  have h32 := headF_32 sumL sumL_32 l [] h (by simp) hh
  have hn : ¬ bigB h b := by unfold bigB; omega
  unfold linksL
  rw [headF_snoc, hh]
  simp only [if_neg hn]
  rw [linksF_snoc sumL l b [] h hh]
theorem str_cells {w : World} {b off : Nat} {ss : List (List UInt8)} (h : ∀ i (h : i < ss.length), w.cell? ⟨b, off + i, none⟩ = some (.string ⟨ss[i].toArray⟩)) : ∀ j u, (strV ss)[j]? = some u → w.cell? ((⟨b, off, none⟩ : Addr).add j) = some u := by
  intro j u hu
  have hj : j < ss.length := by
    have := (List.getElem?_eq_some_iff.1 hu).1
    rw [strV_length] at this; exact this
  have e : (strV ss)[j]? = some (.string ⟨ss[j].toArray⟩) := by simp [strV, hj]
  rw [e] at hu
  cases hu
  have ea : (⟨b, off, none⟩ : Addr).add j = ⟨b, off + j, none⟩ := by unfold Addr.add; split <;> simp_all
  rw [ea]
  exact h j hj
theorem str_cells2 {w W : World} {ad : Addr} {ss : List (List UInt8)} (HC : ∀ k (h : k < ss.length), ∃ b off, some ad = some ⟨b, off, none⟩ ∧ b < w.heap.size ∧ w.cell? ⟨b, off + k, none⟩ = some (.string ⟨ss[k].toArray⟩)) (hb : Below w.heap.size w W) (o : Obj) : ∀ j u, (strV ss)[j]? = some u → (W.alloc o).cell? (ad.add j) = some u := by
  intro j u hu
  have hj : j < ss.length := by
    have := (List.getElem?_eq_some_iff.1 hu).1
    rw [strV_length] at this; exact this
  have e : (strV ss)[j]? = some (.string ⟨ss[j].toArray⟩) := by simp [strV, hj]
  rw [e] at hu
  cases hu
  obtain ⟨b, off, had, hlt, hc⟩ := HC j hj
  obtain rfl : ad = ⟨b, off, none⟩ := by simpa using had
  have ea : (⟨b, off, none⟩ : Addr).add j = ⟨b, off + j, none⟩ := by unfold Addr.add; split <;> simp_all
  rw [ea]
  exact cell_al _ ((hb.cell (p := ⟨b, off + j, none⟩) hlt).trans hc)
theorem str_one (ss : List (List UInt8)) : ∀ u ∈ strV ss, u.oneCell' = true := by
  intro u hu
  obtain ⟨x, _, rfl⟩ := List.mem_map.1 hu
  rfl
theorem cap_cut (w : World) : 1 ≤ (Question.appendCap 1 0 9).cut (w.tape w.drawn (Question.appendCap 1 0 9)) ∧ (Question.appendCap 1 0 9).cut (w.tape w.drawn (Question.appendCap 1 0 9)) ≤ 9223372036854775807 := by
  have h := Nat.mod_lt (w.tape w.drawn (Question.appendCap 1 0 9)) (show 0 < 2 ^ 63 - 1 by decide)
  have e : (Question.appendCap 1 0 9).cut (w.tape w.drawn (Question.appendCap 1 0 9)) = 1 + w.tape w.drawn (Question.appendCap 1 0 9) % (2 ^ 63 - 1) := rfl
  rw [e]
  omega
theorem txt_six (w : World) (b : List UInt8) (c : Nat) (zs : Array Value) (hb : b.length ≤ 1125899906842624) (h1 : 1 ≤ c) (h2 : c ≤ 9223372036854775807) : IsTxt (((w.alloc (.cells #[] 9)).alloc (.cells #[.string ⟨b.toArray⟩] 9)).alloc (.cells (#[.string ⟨b.toArray⟩] ++ zs) 9)).drew (.slice (some ⟨w.heap.size + 1 + 1, 0, none⟩) 1 c) [b] := by
  refine ⟨_, _, _, rfl, rfl, h1, h2, by omega, fun t ht => by rw [List.mem_singleton] at ht; rw [ht]; exact hb, .inr ⟨w.heap.size + 1 + 1, 0, rfl, by rw [heap_drew]; simp, fun i hi => ?_⟩⟩
  match i, hi with
  | 0, _ =>
    have hh : ((w.alloc (.cells #[] 9)).alloc (.cells #[.string ⟨b.toArray⟩] 9)).heap.size = w.heap.size + 1 + 1 := by simp
    have := World.alloc_heap_new ((w.alloc (.cells #[] 9)).alloc (.cells #[.string ⟨b.toArray⟩] 9)) (.cells (#[.string ⟨b.toArray⟩] ++ zs) 9)
    rw [hh] at this
    show World.cell? (World.drew _) ⟨w.heap.size + 1 + 1, 0, none⟩ = _
    rw [cell_of_block (t := 9) (f := (0, 0)) (c := #[.string ⟨b.toArray⟩] ++ zs) (by rw [heap_drew]; exact this)]
    rw [Array.getElem?_append_left (by simp)]
    rfl
theorem bel_six (w : World) (b : List UInt8) (zs : Array Value) : Below w.heap.size w (((w.alloc (.cells #[] 9)).alloc (.cells #[.string ⟨b.toArray⟩] 9)).alloc (.cells (#[.string ⟨b.toArray⟩] ++ zs) 9)).drew :=
  ((((Below.refl _ w).alloc (Nat.le_refl _) _).alloc (by simp) _).alloc (by simp; omega) _).drew
theorem links_b (b : List UInt8) (h : b.length ≤ 65535) : linksL sumL [b] = ([([], b)], 0) := by
  have h1 : ¬ bigB [] b := by unfold bigB; simp; omega
  unfold linksL
  rw [headF, if_neg h1, headF]
  rfl
theorem own_empty (w : World) (e k : Nat) (f : Nat × Nat := (0, 0)) : (w.alloc (.cells #[] e)).ownsRow w.heap.size e k (.slice (some ⟨w.heap.size, 0, none⟩) 0 0) 0 [] :=
  ⟨by simp, .inr ⟨w.heap.size, 0, #[], rfl, Nat.le_refl _, World.alloc_heap_new w _, Nat.le_refl _, by unfold maxLen; omega, by simp, by simp⟩⟩
end Go.Proofs.YtgickejfcmnaiaaDoor
