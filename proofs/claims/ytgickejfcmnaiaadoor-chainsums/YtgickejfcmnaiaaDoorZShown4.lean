/-
  What cartouchelaw04.few and shown answer.
-/
import Derived.Test.YtgickejfcmnaiaaDoorZP4Head
import Derived.Test.YtgickejfcmnaiaaDoorZP4Links
import Derived.Test.YtgickejfcmnaiaaDoorZChainO
namespace Go.Proofs.YtgickejfcmnaiaaDoor
set_option maxRecDepth 100000
open Go.RowKit
set_option linter.unusedVariables false
attribute [local go_sem] ba_size
def few4L (l : List (List UInt8)) : Bool := decide (l.length ≤ 200)
theorem few4_len {l : List (List UInt8)} (h : few4L l = true) : l.length ≤ 200 := of_decide_eq_true h
theorem few4_any (l : List (List UInt8)) (v : Value) (w : World) (hT : IsTxt w v l) :
    Calls Tryd.prog 12 #[v] w fun e w' => e = .returned (.bool (few4L l)) ∧ Below w.heap.size w w' := by
  obtain ⟨a, cap, rfl, h1, h2, h3⟩ := hT.len
  have HE : Hid (few4L l = decide ((l.length : Int) ≤ 200)) := by
    show few4L l = _
    unfold few4L
    by_cases h : l.length ≤ 200
    · rw [decide_eq_true h, decide_eq_true (by omega)]
    · rw [decide_eq_false h, decide_eq_false (by omega)]
  clear hT
  go_enter Tryd.func12, Tryd.ntmps12
  go_wp2_with fail
  go_ret
  exact ⟨by rw [HE.out]; rfl, Below.refl _ _⟩
theorem links_bound (l : List (List UInt8)) : ∀ t ∈ (linksL sumL l).1, t.1.length ≤ 32 ∧ t.2.length ≤ 65535 := by
  intro t ht
  unfold linksL at ht
  have h := links_small sumL sumL_32 l [] (by simp)
  cases e : headF sumL [] l with
  | none => rw [e] at ht; cases ht
  | some x =>
    rw [e] at ht h
    have := h (by simp) t ht
    unfold bigB at this
    omega
theorem links_len (l : List (List UInt8)) : (linksL sumL l).1.length ≤ l.length := by
  unfold linksL
  cases headF sumL [] l with
  | none => simp
  | some x => rw [linksF_len]; omega
/-- What Links leaves reads as links. -/
theorem LnRes.lnk {w0 w' : World} {r : Value} {l : List (List UInt8)} (h : w'.ownsRow w0.heap.size 48 2 r (linksL sumL l).1.length (lnkV (linksL sumL l).1)) (hl : l.length ≤ 8796093022208) : IsLnk w' r (linksL sumL l).1 :=
  IsLnk.own h (by have := links_len l; omega) (fun t ht => by have := links_bound l t ht; omega)
theorem txt_ab (w : World) : IsTxt (w.alloc (.cells #[.string ⟨#[97]⟩, .string ⟨#[98]⟩] 9)) (.slice (some ⟨w.heap.size, 0, none⟩) 2 2) [[97], [98]] := by
  refine ⟨_, _, _, rfl, rfl, by omega, by omega, by omega, fun t ht => by simp at ht; rcases ht with rfl | rfl <;> simp, .inr ⟨w.heap.size, 0, rfl, by simp, fun i hi => ?_⟩⟩
  match i, hi with
  | 0, _ => rw [cell_of_block (World.alloc_heap_new w _)]; rfl
  | 1, _ => rw [cell_of_block (World.alloc_heap_new w _)]; rfl
theorem links_ab : linksL sumL [[97], [98]] = ([([], [97]), (sumL (cinL [] [97]), [98])], 0) := by
  have h1 : ¬ bigB [] [97] := by unfold bigB; simp
  have h2 : ¬ bigB (sumL (cinL [] [97])) [98] := by unfold bigB; rw [sumL_32]; simp
  unfold linksL
  rw [headF, if_neg h1, headF, if_neg h2, headF]
  rfl
set_option maxHeartbeats 1000000 in
theorem shown4_any (w : World) (hG : G w) : Calls Tryd.prog 11 #[] w fun e w' => e = .returned (.bool true) ∧ Below w.heap.size w w' := by
  have hg3 := hG.size
  have A1 := phead_any [] _ w hG (IsTxt.nil w)
  have A2 := fun W (h : Below w.heap.size w W) => plinks_any [[97], [98]] _ _ (hG.below (h.alloc h.size (.cells #[.string ⟨#[97]⟩, .string ⟨#[98]⟩] 9)) hg3) (txt_ab W) (by decide)
  rw [links_ab] at A2
  have l32 := sumL_32 (cinL [] [97])
  obtain ⟨q, hq⟩ : ∃ q, sumL (cinL [] [97]) = q := ⟨_, rfl⟩
  rw [hq] at A2 l32
  clear hq
  have HA2 : Hid (∀ W, Below w.heap.size w W → Calls Tryd.prog 19 #[.slice (some ⟨W.heap.size, 0, none⟩) 2 2] (W.alloc (.cells #[.string ⟨#[97]⟩, .string ⟨#[98]⟩] 9)) fun e w' => LnRes (W.alloc (.cells #[.string ⟨#[97]⟩, .string ⟨#[98]⟩] 9)) ([([], [97]), (q, [98])], 0) e w') := A2
  clear A2
  change Calls _ _ _ _ fun e w' => e = .returned (.tuple #[.string ⟨#[]⟩, .int .i64 0]) ∧ Below w.heap.size w w' at A1
  go_enter Tryd.func11, Tryd.ntmps11
  go_wp2_with fail
  refine A1.mono ?_
  rintro e w1 ⟨rfl, b1⟩
  go_wp2_with fail
  refine (HA2.out w1 b1).mono ?_
  rintro e w2 hres
  obtain ⟨r, rfl, b2, hown⟩ := hres
  have hL : IsLnk w2 r [([], [97]), (q, [98])] := IsLnk.own hown (by show 2 ≤ _; omega) (fun t ht => by simp at ht; rcases ht with rfl | rfl <;> simp; omega)
  obtain ⟨a, cap, rfl, h1, h2, h3, HC⟩ := hL.some_at
  obtain ⟨bb, off, rfl, hblt, c0, c1⟩ := HC.out 0 (by simp)
  obtain ⟨bb', off', hbb, _, c2, c3⟩ := HC.out 1 (by simp)
  obtain ⟨rfl, rfl⟩ : bb = bb' ∧ off = off' := by simpa using hbb
  simp only [Nat.zero_mul, Nat.add_zero, Nat.one_mul, List.getElem_cons_zero, List.getElem_cons_succ] at c0 c1 c2 c3
  have B2 : Below w.heap.size w w2 := (b1.alloc b1.size _).trans (b2.mono (by have := b1.size; simp; omega))
  have e32 : ((q.length : Int) == 32) = true := by rw [l32]; rfl
  have f32 : (q.length : Int) = 32 := by omega
  clear hL HC hown
  simp only [List.length_cons, List.length_nil] at h1 h3 ⊢
  go_wp2_with fail
  go_ret
  exact ⟨rfl, B2⟩
end Go.Proofs.YtgickejfcmnaiaaDoor
