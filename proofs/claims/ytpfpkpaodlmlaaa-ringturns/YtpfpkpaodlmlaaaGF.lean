/-
  What Order's loops say, in lists; two rows that don't share a block: of no program.
  What cartoucheref11.has, place and without answer.
  What cartoucheref11.Order answers.
  What cartoucheref11.Forward and Closed answer.
  Rows of rows of numbers: who reaches a number in so many steps; of no program but for the types.
  What Ring's loops say: in lists.
  What is wanted of package ring, as one word (rows of at most so many numbers, so many steps).
-/
import Derived.Test.YtpfpkpaodlmlaaaGA
import Derived.Test.YtpfpkpaodlmlaaaGC
import Derived.OwnWalk
import Derived.Maps.AppendAt
import Derived.Test.YtpfpkpaodlmlaaaGE
import Derived.Laws.AppendOwnNone
import Derived.Lib.Hide
import Derived.BigQuiet
import Derived.Deep.QuietTactic
namespace Go.Proofs.Ytpfpkpaodlmlaaa
set_option maxRecDepth 100000
open Go.RowKit
set_option linter.unusedVariables false
def Apart11 (r v : Value) : Prop := ∀ g, v.ownBlock = some g → r.ownBlock ≠ some g
theorem apart11_kept {W W' : World} {B e k n : Nat} {r v : Value} {xs : List Value} (h : W.ownsRow B e k v n xs) (hg : W.grownBy W' r.ownBlock) (ha : Apart11 r v) : W'.ownsRow B e k v n xs := by
  refine h.kept hg ?_
  cases hv : v.ownBlock with
  | none => exact .inl rfl
  | some g => exact .inr (fun e => ha g hv (by rw [← e]))
theorem apart11_low {W W' : World} {B C e k e' k' n n' : Nat} {r v : Value} {xs ys : List Value} (hr : W.ownsRow B e k r n xs) (hv : W'.ownsRow C e' k' v n' ys) (hC : W.heap.size ≤ C) : Apart11 r v := by
  intro g h1 h2
  have := (hr.lt g h2).2
  have := (hv.lt g h1).1
  omega
theorem apart11_nil (v : Value) (n c : Nat) : Apart11 (.slice none n c) v := fun g _ h => by simp [Value.ownBlock] at h
/-- A slice that may be appended: nil, or of a block. -/
def Shp (v : Value) : Prop := v = .slice none 0 0 ∨ ∃ ad n c, v = .slice (some ad) n c
theorem Shp.own {W : World} {B e k n : Nat} {v : Value} {xs : List Value} (h : W.ownsRow B e k v n xs) : Shp v := by
  rcases h.2 with ⟨rfl, _⟩ | ⟨g, cap, cur, rfl, _⟩
  · exact .inl rfl
  · exact .inr ⟨_, _, _, rfl⟩
def slLen : Value → Nat
  | .slice _ n _ => n
  | _ => 0
section
variable {α : Type}
def freeTo (l : List (Sp α)) (left : List Int) (x : Int) (z : Nat) : Bool := freeB (l.take z) left x
theorem freeTo_next (l : List (Sp α)) (left : List Int) (x : Int) (z : Nat) (hz : z < l.length) : freeTo l left x (z + 1) = (freeTo l left x z && !(decide (l[z].2.1 = x) && decide (l[z].1 ∈ left))) := by
  unfold freeTo freeB
  rw [List.take_succ_eq_append_getElem hz, List.all_append]
  simp
theorem freeTo_all (l : List (Sp α)) (left : List Int) (x : Int) : freeTo l left x l.length = freeB l left x := by unfold freeTo; rw [List.take_length]
def bestTo (l : List (Sp α)) (left : List Int) (q : Nat) : Option Int := minI ((left.take q).filter fun x => freeB l left x)
theorem minI_snoc (L : List Int) (x : Int) : minI (L ++ [x]) = match minI L with
    | none => some x
    | some y => some (if x < y then x else y) := by
  cases hm : minI L with
  | none =>
    rw [(minI_none L).1 hm]
    rfl
  | some y =>
    simp only
    obtain ⟨h1, h2⟩ := (minI_some L y).1 hm
    rw [minI_some]
    by_cases hx : x < y
    · rw [if_pos hx]
      refine ⟨by simp, fun z hz => ?_⟩
      rcases List.mem_append.1 hz with hz | hz
      · have := h2 z hz; omega
      · rw [List.mem_singleton.1 hz]; exact Int.le_refl _
    · rw [if_neg hx]
      refine ⟨List.mem_append.2 (.inl h1), fun z hz => ?_⟩
      rcases List.mem_append.1 hz with hz | hz
      · exact h2 z hz
      · rw [List.mem_singleton.1 hz]; omega
theorem bestTo_no (l : List (Sp α)) (left : List Int) (q : Nat) (hq : q < left.length) (h : freeB l left left[q] = false) : bestTo l left (q + 1) = bestTo l left q := by
  unfold bestTo
  rw [List.take_succ_eq_append_getElem hq, List.filter_append]
  rw [show List.filter (fun x => freeB l left x) [left[q]] = [] by simp [h]]
  simp
theorem bestTo_yes (l : List (Sp α)) (left : List Int) (q : Nat) (hq : q < left.length) (h : freeB l left left[q] = true) : bestTo l left (q + 1) = match bestTo l left q with
    | none => some left[q]
    | some y => some (if left[q] < y then left[q] else y) := by
  unfold bestTo
  rw [List.take_succ_eq_append_getElem hq, List.filter_append]
  rw [show List.filter (fun x => freeB l left x) [left[q]] = [left[q]] by simp [h]]
  exact minI_snoc _ _
theorem bestTo_all (l : List (Sp α)) (left : List Int) : bestTo l left left.length = bestL l left := by unfold bestTo bestL; rw [List.take_length]
/-- What the outer loop says. -/
def ordI (nodes : List Int) (l : List (Sp α)) (left out : List Int) : Prop := ∃ fuel, left.length ≤ fuel ∧ orderL nodes l = (orderF l fuel left).map (out ++ ·)
theorem ordI_start (nodes : List Int) (l : List (Sp α)) : ordI nodes l nodes [] := ⟨nodes.length, Nat.le_refl _, by unfold orderL; cases orderF l nodes.length nodes <;> rfl⟩
theorem ordI_end (nodes : List Int) (l : List (Sp α)) (out : List Int) (h : ordI nodes l [] out) : orderL nodes l = some out := by
  obtain ⟨fuel, _, h⟩ := h
  rw [h]
  cases fuel <;> simp [orderF]
theorem ordI_none (nodes : List Int) (l : List (Sp α)) (left out : List Int) (h : ordI nodes l left out) (hne : left ≠ []) (hb : bestL l left = none) : orderL nodes l = none := by
  obtain ⟨fuel, hf, h⟩ := h
  cases fuel with
  | zero => exact absurd (List.length_eq_zero_iff.1 (by omega)) hne
  | succ fuel =>
    rw [h, orderF, if_neg hne, hb]
    rfl
theorem ordI_next (nodes : List Int) (l : List (Sp α)) (left out : List Int) (b : Int) (h : ordI nodes l left out) (hne : left ≠ []) (hb : bestL l left = some b) : ordI nodes l (left.filter fun x => decide (x ≠ b)) (out ++ [b]) := by
  obtain ⟨fuel, hf, h⟩ := h
  cases fuel with
  | zero => exact absurd (List.length_eq_zero_iff.1 (by omega)) hne
  | succ fuel =>
    have hlt := filter_less left b ((best_some l left b).1 hb).1.1
    refine ⟨fuel, by omega, ?_⟩
    rw [h, orderF, if_neg hne, hb]
    simp only
    cases orderF l fuel (left.filter fun x => decide (x ≠ b)) with
    | none => rfl
    | some o => simp
end
end Go.Proofs.Ytpfpkpaodlmlaaa
namespace Go.Proofs.Ytpfpkpaodlmlaaa
set_option maxRecDepth 100000
open Go.RowKit
set_option linter.unusedVariables false
attribute [local go_sem] ba_size
theorem mem_getD {l : List Int} {k : Nat} {x : Int} (hk : k < l.length) (h : l.getD k 0 = x) : x ∈ l := by
  rw [getD_at l 0 k hk] at h
  rw [← h]
  exact List.getElem_mem hk
theorem not_mem_getD {l : List Int} {x : Int} (h : ∀ j, j < l.length → l.getD j 0 ≠ x) : ¬ x ∈ l := fun hm => by
  obtain ⟨j, hj, e⟩ := List.getElem_of_mem hm
  exact h j hj (by rw [getD_at l 0 j hj]; exact e)
def dropI (x : Int) (l : List Int) : List Int := l.filter fun y => decide (y ≠ x)
/-- The place of a number in a row. -/
def plL (l : List Int) (x : Int) : Option Nat := fi (fun j => decide (l.getD j 0 = x)) l.length
theorem plL_some (l : List Int) (x : Int) (k : Nat) : plL l x = some k ↔ k < l.length ∧ l.getD k 0 = x ∧ ∀ j, j < k → l.getD j 0 ≠ x := by
  unfold plL
  rw [fi_some]
  simp
theorem plL_none (l : List Int) (x : Int) : plL l x = none ↔ ∀ j, j < l.length → l.getD j 0 ≠ x := by
  unfold plL
  rw [fi_none]
  simp
set_option maxHeartbeats 1000000 in
theorem rhas_any (v : Value) (l : List Int) (x : Int) (w : World) (hT : IsInts w v l) :
    Calls Try.prog 29 #[v, .int .i64 x] w fun e w' => e = .returned (Value.bool (decide (x ∈ l))) ∧ Below w.heap.size w w' := by
  obtain ⟨a, cap, rfl, h1, h2, h3, HC⟩ := IsInts.reads hT
  obtain ⟨n, hn⟩ : ∃ n, l.length = n := ⟨_, rfl⟩
  have HN : Hid (l.length = n) := hn
  obtain ⟨r, hr⟩ : ∃ r, (Value.bool (decide (x ∈ l))) = r := ⟨_, rfl⟩
  have HR : Hid ((Value.bool (decide (x ∈ l))) = r) := hr
  rw [hr]
  rw [hn] at h1 h3 ⊢
  clear hT hn hr
  go_enter Try.func29, Try.ntmps29
  go_wp2_with fail
  go_loopw [5] (fun i wr => ∃ k : Nat, k ≤ n ∧ i = .int .i64 k ∧ Hid (∀ j, j < k → l.getD j 0 ≠ x) ∧ Below w.heap.size w wr) (fun i _ => n - (intOf i).toNat)
  case atStart => exact ⟨0, Nat.zero_le _, rfl, (fun j hj => by omega), Below.refl _ _⟩
  case round =>
    obtain ⟨k, hk, rfl, HA, hbw⟩ := hrel
    by_cases hlt : k < n
    · have hk1 : k < l.length := by have := HN.out; omega
      have jk : (k : Int) < (n : Int) := by omega
      obtain ⟨bb, off, rfl, HQ⟩ := HC.out (by omega)
      have c0 := HQ.out k hk1 _ hbw
      obtain ⟨y, hy⟩ : ∃ y, l.getD k 0 = y := ⟨_, rfl⟩
      rw [hy] at c0
      by_cases d : y = x
      · have e1 : (y == x) = true := by rw [d]; exact beq_self_eq_true _
        have HF : Hid (r = Value.bool true) := by
          show _ = _
          rw [← HR.out]
          rw [decide_eq_true (mem_getD hk1 (hy.trans d))]

        clear d hy
        go_wp2_with fail
        go_ret
        exact ⟨by rw [HF.out]; rfl, hbw⟩
      · have e1 : (y == x) = false := beq_eq_false_iff_ne.2 d
        have HA2 : Hid (∀ j, j < k + 1 → l.getD j 0 ≠ x) := fun j hj => by
          rcases Nat.lt_or_ge j k with hj2 | hj2
          · exact HA.out j hj2
          · obtain rfl : j = k := by omega
            rw [hy]
            exact d
        clear d hy
        go_wp2_with fail
        refine ⟨⟨k + 1, by omega, by first | go_num | simp, HA2, hbw⟩, by simp [intOf]; omega⟩
    · obtain rfl : k = n := by omega
      have jk : ¬ (k : Int) < (k : Int) := by omega
      have HF : Hid (r = Value.bool false) := by
        show _ = _
        rw [← HR.out]
        rw [decide_eq_false (not_mem_getD (fun j hj => HA.out j (by rw [← HN.out]; exact hj)))]

      go_wp2_with fail
      go_ret
      exact ⟨by rw [HF.out]; rfl, hbw⟩
set_option maxHeartbeats 1000000 in
theorem rplace_any (v : Value) (l : List Int) (x : Int) (w : World) (hT : IsInts w v l) :
    Calls Try.prog 31 #[v, .int .i64 x] w fun e w' => e = .returned (Value.int .i64 (oI (plL l x))) ∧ Below w.heap.size w w' := by
  obtain ⟨a, cap, rfl, h1, h2, h3, HC⟩ := IsInts.reads hT
  obtain ⟨n, hn⟩ : ∃ n, l.length = n := ⟨_, rfl⟩
  have HN : Hid (l.length = n) := hn
  obtain ⟨r, hr⟩ : ∃ r, (Value.int .i64 (oI (plL l x))) = r := ⟨_, rfl⟩
  have HR : Hid ((Value.int .i64 (oI (plL l x))) = r) := hr
  rw [hr]
  rw [hn] at h1 h3 ⊢
  clear hT hn hr
  go_enter Try.func31, Try.ntmps31
  go_wp2_with fail
  go_loopw [5] (fun i wr => ∃ k : Nat, k ≤ n ∧ i = .int .i64 k ∧ Hid (∀ j, j < k → l.getD j 0 ≠ x) ∧ Below w.heap.size w wr) (fun i _ => n - (intOf i).toNat)
  case atStart => exact ⟨0, Nat.zero_le _, rfl, (fun j hj => by omega), Below.refl _ _⟩
  case round =>
    obtain ⟨k, hk, rfl, HA, hbw⟩ := hrel
    by_cases hlt : k < n
    · have hk1 : k < l.length := by have := HN.out; omega
      have jk : (k : Int) < (n : Int) := by omega
      obtain ⟨bb, off, rfl, HQ⟩ := HC.out (by omega)
      have c0 := HQ.out k hk1 _ hbw
      obtain ⟨y, hy⟩ : ∃ y, l.getD k 0 = y := ⟨_, rfl⟩
      rw [hy] at c0
      by_cases d : y = x
      · have e1 : (y == x) = true := by rw [d]; exact beq_self_eq_true _
        have HF : Hid (r = Value.int .i64 (k : Int)) := by
          show _ = _
          rw [← HR.out]
          rw [show plL l x = some k from (plL_some l x k).2 ⟨hk1, hy.trans d, HA.out⟩]
          rfl

        clear d hy
        go_wp2_with fail
        go_ret
        exact ⟨by rw [HF.out]; rfl, hbw⟩
      · have e1 : (y == x) = false := beq_eq_false_iff_ne.2 d
        have HA2 : Hid (∀ j, j < k + 1 → l.getD j 0 ≠ x) := fun j hj => by
          rcases Nat.lt_or_ge j k with hj2 | hj2
          · exact HA.out j hj2
          · obtain rfl : j = k := by omega
            rw [hy]
            exact d
        clear d hy
        go_wp2_with fail
        refine ⟨⟨k + 1, by omega, by first | go_num | simp, HA2, hbw⟩, by simp [intOf]; omega⟩
    · obtain rfl : k = n := by omega
      have jk : ¬ (k : Int) < (k : Int) := by omega
      have HF : Hid (r = Value.int .i64 (-1)) := by
        show _ = _
        rw [← HR.out]
        rw [show plL l x = none from (plL_none l x).2 (fun j hj => HA.out j (by rw [← HN.out]; exact hj))]
        rfl

      go_wp2_with fail
      go_ret
      exact ⟨by rw [HF.out]; rfl, hbw⟩
set_option maxHeartbeats 1000000 in
theorem rwithout_any (v : Value) (l : List Int) (x : Int) (w : World) (hT : IsInts w v l) (hn : l.length ≤ 1000000000) :
    Calls Try.prog 30 #[v, .int .i64 x] w fun e w' => InRow w (dropI x l) e w' := by
  obtain ⟨i0, hi, hz0, hz1, hz2⟩ := info_parts int_info
  obtain ⟨a, cap, rfl, h1, h2, h3, HC⟩ := IsInts.reads hT
  obtain ⟨n, hn'⟩ : ∃ n, l.length = n := ⟨_, rfl⟩
  have HN : Hid (l.length = n) := hn'
  rw [hn'] at h1 h3 hn ⊢
  clear hT hn'
  go_enter Try.func30, Try.ntmps30
  go_wp2_with fail
  go_loopw [5, 6] (fun r i wr => ∃ (k c : Nat), k ≤ n ∧ c ≤ k ∧ i = .int .i64 k ∧ Hid ((dropI x (l.take k)).length = c) ∧ Below w.heap.size w wr ∧ wr.ownsRow w.heap.size 3 1 r c (recV intV (dropI x (l.take k)))) (fun _ i _ => n - (intOf i).toNat)
  case atStart => exact ⟨0, 0, Nat.zero_le _, Nat.zero_le _, rfl, rfl, Below.refl _ _, World.ownsRow_nil _ _ _ _⟩
  case round =>
    obtain ⟨k, c, hk, hc, rfl, HL, hbw, hrow⟩ := hrel
    by_cases hlt : k < n
    · have hk1 : k < l.length := by have := HN.out; omega
      have jk : (k : Int) < (n : Int) := by omega
      obtain ⟨bb, off, rfl, HQ⟩ := HC.out (by omega)
      have c0 := HQ.out k hk1 _ hbw
      obtain ⟨y, hy⟩ : ∃ y, l.getD k 0 = y := ⟨_, rfl⟩
      rw [hy] at c0
      have HT : Hid (dropI x (l.take (k + 1)) = dropI x (l.take k) ++ (if y = x then [] else [y])) := by
        show _ = _
        unfold dropI
        rw [List.take_succ_eq_append_getElem hk1, List.filter_append, ← getD_at l 0 k hk1, hy]
        congr 1
        by_cases d : y = x
        · rw [if_pos d]; simp [d]
        · rw [if_neg d]; simp [d]
      clear hy
      by_cases d : y = x
      · have e1 : (y != x) = false := by rw [d]; simp
        rw [if_pos d, List.append_nil] at HT
        clear d
        go_wp2_with fail
        refine ⟨⟨k + 1, c, by omega, by omega, by first | go_num | simp, by show _ = _; rw [HT.out]; exact HL.out, hbw, by rw [HT.out]; exact hrow⟩, by simp [intOf]; omega⟩
      · have e1 : (y != x) = true := bne_iff_ne.2 d
        rw [if_neg d] at HT
        clear d
        obtain ⟨DR, hDR⟩ : ∃ d : List Int, dropI x (l.take k) = d := ⟨_, rfl⟩
        rw [hDR] at hrow HT HL
        have sz := hbw.size
        go_wp2_with (at_builtin; refine wpList_append_own _ rfl _ _ 22 rfl w.heap.size 3 i0 (.int .i64 0) 1 8 Try.underlying22 hi hz0 hz1 hz2 rfl (by decide) _ _ _ rfl (hrow.alloc _) ⟨wr.heap.size, 0, none⟩ 1 1 [.int .i64 y] rfl rfl ?d1 ?d2 ?d3 ?d4 ?d5 ?_)
        case d1 => intro j u hj; match j, hj with
          | 0, hj => simp at hj; subst hj; first | (simp [Addr.add]; done) | exact cell_new7 (by simp) rfl
        case d2 => intro u hu; simp at hu; subst hu; rfl
        case d3 => unfold maxLen; omega
        case d4 => omega
        case d5 => simp; omega
        intro v' w3 own3 g3 _
        have B3 : Below w.heap.size w w3 := (hbw.alloc hbw.size _).grown g3 (by simp; omega) (fun j hj => (hrow.lt j hj).1)
        go_wp2_with fail
        refine ⟨⟨k + 1, c + 1, by omega, by omega, by first | go_num | simp, by show _ = _; rw [HT.out, List.length_append, HL.out]; rfl, B3, by rw [HT.out, recV_append]; exact own3⟩, by simp [intOf]; omega⟩
    · obtain rfl : k = n := by omega
      have jk : ¬ (k : Int) < (k : Int) := by omega
      have HE : Hid (dropI x (l.take k) = dropI x l) := by show _ = _; rw [← HN.out, List.take_length]
      go_wp2_with fail
      go_ret
      refine ⟨_, rfl, hbw, ?_⟩
      rw [← HE.out, HL.out]
      exact hrow
end Go.Proofs.Ytpfpkpaodlmlaaa
namespace Go.Proofs.Ytpfpkpaodlmlaaa
set_option maxRecDepth 100000
open Go.RowKit
set_option linter.unusedVariables false
set_option linter.unusedSimpArgs false
attribute [local go_sem] ba_size
def OrdRes (w : World) (r : Option (List Int)) (e : Ending) (w' : World) : Prop := ∃ v, e = .returned (.tuple #[v, .bool r.isSome]) ∧ Below w.heap.size w w' ∧ w'.ownsRow w.heap.size 3 1 v (r.getD []).length (recV intV (r.getD []))
theorem ints_own {W : World} {B : Nat} {v : Value} {l : List Int} (h : W.ownsRow B 3 1 v l.length (recV intV l)) (hn : l.length ≤ 140737488351232) : IsInts W v l := IsRec.own intV_len (by omega) h hn
set_option maxHeartbeats 8000000 in
theorem rorder_any (vn vl : Value) (nodes : List Int) (l : List Stp) (w : World) (hO : IsInts w vn nodes) (hS : Shp vn) (hT : IsSts w vl l) (hn9 : nodes.length ≤ 1000000) :
    Calls Try.prog 13 #[vn, vl] w fun e w' => OrdRes w (orderL nodes l) e w' := by
  obtain ⟨i0, hi, hz0, hz1, hz2⟩ := info_parts int_info
  obtain ⟨al, cl, rfl, p1, p2, p3, HL⟩ := hT.reads
  obtain ⟨m, hm⟩ : ∃ m, l.length = m := ⟨_, rfl⟩
  have HM : Hid (l.length = m) := hm
  rw [hm] at p1 p3 ⊢
  obtain ⟨n, hn⟩ : ∃ n, nodes.length = n := ⟨_, rfl⟩
  have HN : Hid (nodes.length = n) := hn
  rw [hn] at hn9
  have hB0 : Below w.heap.size w w := Below.refl _ _
  have E0 := own_empty8 w 3 1
  have BE := (Below.refl w.heap.size w).alloc (Nat.le_refl _) (.cells #[] 3)
  clear hT hm
  rcases hS with rfl | ⟨ad, n', c', rfl⟩
  · obtain ⟨a, cap, e, _⟩ := hO.some_at
    have h0 : nodes = [] := List.length_eq_zero_iff.1 (by simp at e; omega)
    subst h0
    have hE : orderL [] l = some [] := rfl
    rw [hE]
    clear hO e hn
    go_enter Try.func13, Try.ntmps13
    go_wp2_with (at_builtin; refine wpList_append_own_none rfl _ _ 22 rfl w.heap.size 3 i0 1 Try.underlying22 hi _ _ _ rfl E0 rfl ?_)
    go_wp2_with fail
    obtain ⟨ww, hww⟩ : ∃ ww, w.alloc (.cells #[] 3) = ww := ⟨_, rfl⟩
    rw [hww] at BE ⊢
    clear hww
    go_loopw [6, 7] (fun lv ov wr => lv = .slice (some ⟨w.heap.size, 0, none⟩) 0 0 ∧ ov = .slice none 0 0 ∧ wr = ww) (fun _ _ _ => 0)
    case atStart => exact ⟨rfl, rfl, rfl⟩
    case round =>
      obtain ⟨rfl, rfl, rfl⟩ := hrel
      go_wp2_with fail
      go_ret2
      exact ⟨_, rfl, BE, World.ownsRow_nil _ _ _ _⟩
  · obtain ⟨a, cap, e, q1, q2, q3, HCn⟩ := IsInts.reads hO
    obtain ⟨rfl, rfl, rfl⟩ : some ad = a ∧ n' = nodes.length ∧ c' = cap := by simpa using e
    have SRC := IsRec.src intV_len (by omega) hO BE
    have LEN := recV_length intV_len nodes
    have ONE := recV_one (enc := intV) (fun x u hu => by simp [intV] at hu; subst hu; rfl) nodes
    rw [hn] at q1 q3 LEN ⊢
    clear e HCn hn
    go_enter Try.func13, Try.ntmps13
    go_wp2_with (at_builtin; refine wpList_append_own _ rfl _ _ 22 rfl w.heap.size 3 i0 (.int .i64 0) 1 8 Try.underlying22 hi hz0 hz1 hz2 rfl (by decide) _ _ _ rfl E0 ad n c' (recV intV nodes) rfl LEN SRC ONE ?d3 ?d4 ?d5 ?_)
    case d3 => unfold maxLen; omega
    case d4 => omega
    case d5 => simp
    intro v1 w1 own1 g1 _
    have hB1 : Below w.heap.size w w1 := BE.grown g1 (by simp) (fun j hj => (E0.lt j hj).1)
    (try rw [List.nil_append, Nat.zero_add] at own1)
    have hrow1 : w1.ownsRow w.heap.size 3 1 v1 nodes.length (recV intV nodes) := by rw [HN.out]; exact own1
    clear own1 g1 SRC ONE LEN E0 BE hO
    go_wp2_with fail
    go_loopw [6, 7] (fun lv ov wr => ∃ (left out : List Int), Hid (ordI nodes l left out) ∧ left.length + out.length ≤ n ∧ Below w.heap.size w wr ∧ wr.ownsRow w.heap.size 3 1 lv left.length (recV intV left) ∧ wr.ownsRow w.heap.size 3 1 ov out.length (recV intV out) ∧ Hid (Apart11 ov lv)) (fun lv _ _ => slLen lv)
    case atStart => exact ⟨nodes, [], ordI_start nodes l, by simp [HN.out], hB1, hrow1, World.ownsRow_nil _ _ _ _, apart11_nil _ _ _⟩
    case round =>
      obtain ⟨left, out, HO, hlen, hbw, hrow, orow, HAP⟩ := hrel
      obtain ⟨wA, rfl⟩ : ∃ wA, wA = wr := ⟨_, rfl⟩
      obtain ⟨c, hc⟩ : ∃ c, left.length = c := ⟨_, rfl⟩
      have HC : Hid (left.length = c) := hc
      by_cases h0 : left = []
      · subst h0
        have HE : Hid (orderL nodes l = some out) := ordI_end nodes l out HO.out
        obtain ⟨al, cl', rfl⟩ : ∃ a c, u6 = .slice a 0 c := by
          rcases hrow.2 with ⟨rfl, _⟩ | ⟨g, cap, cur, rfl, _⟩
          · exact ⟨_, _, rfl⟩
          · exact ⟨_, _, rfl⟩
        clear hc
        go_wp2_with fail
        go_ret2
        exact ⟨_, by rw [HE.out]; rfl, hbw, by rw [HE.out]; exact orow⟩
      · have hc0 : 0 < c := by
          rw [← hc]
          exact List.length_pos_iff.2 h0
        obtain ⟨gl, kl, rfl⟩ : ∃ g k, u6 = .slice (some ⟨g, 0, none⟩) c k := by
          rcases hrow.2 with ⟨rfl, h⟩ | ⟨g, cap, cur, rfl, _⟩
          · omega
          · exact ⟨g, cap, by rw [← hc]⟩
        have hkl : c ≤ kl := by
          rcases hrow.2 with ⟨h, _⟩ | ⟨g, cap, cur, h, _, _, h2, _⟩
          · cases h
          · simp only [Value.slice.injEq] at h
            obtain ⟨_, _, rfl⟩ := h
            omega
        have Tl : IsInts wA (.slice (some ⟨gl, 0, none⟩) c kl) left := ints_own hrow (by omega)
        have CH := fun (x : Int) W (hW : Below wA.heap.size wA W) => rhas_any (.slice (some ⟨gl, 0, none⟩) c kl) left x W (Tl.below hW)
        have CW := fun (x : Int) W (hT : IsInts W (.slice (some ⟨gl, 0, none⟩) c kl) left) => rwithout_any (.slice (some ⟨gl, 0, none⟩) c kl) left x W hT (by omega)
        have hrowc : wA.ownsRow w.heap.size 3 1 (.slice (some ⟨gl, 0, none⟩) c kl) c (recV intV left) := by have e := hrow; rw [hc] at e; exact e
        have Hcell : Hid (∀ q (hq : q < left.length) V, Below wA.heap.size wA V → V.cell? ⟨gl, q, none⟩ = some (.int .i64 left[q])) := fun q hq V hV => by
          have e := (owns_below hrowc hV).cellAt q (by omega)
          have g := recV_get intV_len left q hq 0 (by omega)
          rw [Nat.mul_one, Nat.add_zero] at g
          rw [e, g]
          rfl
        have h0' := h0
        have HNE : Hid (left ≠ []) := h0
        have jc : (0 : Int) < (c : Int) := by omega
        clear h0 h0' hc
        go_wp2_with fail
        go_loopw [8, 9, 10] (fun bv fv iv wq => ∃ (q : Nat) (r : Option Int), q ≤ c ∧ iv = .int .i64 q ∧ Hid (bestTo l left q = r) ∧ bv = .int .i64 (r.getD 0) ∧ fv = .bool r.isSome ∧ Below wA.heap.size wA wq) (fun _ _ iv _ => c - (intOf iv).toNat)
        case atStart => exact ⟨0, none, Nat.zero_le _, rfl, rfl, rfl, rfl, Below.refl _ _⟩
        case round =>
          obtain ⟨q, r, hq, rfl, HB, rfl, rfl, hbq⟩ := hrel
          obtain ⟨wB, rfl⟩ : ∃ wB, wB = wr := ⟨_, rfl⟩
          by_cases hlq : q < c
          · have hq1 : q < left.length := by have := HC.out; omega
            have jq : (q : Int) < (c : Int) := by omega
            obtain ⟨x, hx⟩ : ∃ x, left[q] = x := ⟨_, rfl⟩
            have HX : Hid (left[q]'hq1 = x) := hx
            have HCx : Hid (∀ V, Below wA.heap.size wA V → V.cell? ⟨gl, q, none⟩ = some (.int .i64 x)) := fun V hV => by rw [← HX.out]; exact Hcell.out q hq1 V hV
            clear hx
            go_wp2_with fail
            go_loopw [11, 12] (fun fv kv wz => ∃ z : Nat, z ≤ m ∧ kv = .int .i64 z ∧ fv = .bool (freeTo l left x z) ∧ Below wA.heap.size wA wz) (fun _ kv _ => m - (intOf kv).toNat)
            case atStart => exact ⟨0, Nat.zero_le _, rfl, rfl, hbq⟩
            case round =>
              obtain ⟨z, hz, rfl, rfl, hbz⟩ := hrel
              obtain ⟨wC, rfl⟩ : ∃ wC, wC = wr := ⟨_, rfl⟩
              by_cases hlz : z < m
              · have hz1 : z < l.length := by have := HM.out; omega
                have jz : (z : Int) < (m : Int) := by omega
                obtain ⟨bs, os, rfl, u, _, C1⟩ := HL.out z hz1
                obtain ⟨⟨f, t, E⟩, hy⟩ : ∃ y, l[z] = y := ⟨_, rfl⟩
                have HNx : Hid (freeTo l left x (z + 1) = (freeTo l left x z && !(decide (t = x) && decide (f ∈ left)))) := by show _ = _; rw [freeTo_next l left x z hz1, hy]
                rw [hy] at C1
                simp only at C1
                have HC1 := Lib.hid C1
                clear hy C1
                have hwz := bel_trans (bel_trans hB0 hbw) hbz
                obtain ⟨x0, x1, _⟩ := HC1.out _ (bel_trans hbw hbz)
                have D := CH f _ hbz
                obtain ⟨hb, hhb⟩ : ∃ b, decide (f ∈ left) = b := ⟨_, rfl⟩
                rw [hhb] at D HNx
                clear hhb
                obtain ⟨fr, hfr⟩ : ∃ b, freeTo l left x z = b := ⟨_, rfl⟩
                rw [hfr] at HNx
                simp only [hfr]
                clear hfr
                have HST : ∀ b, (fr && !(decide (t = x) && hb)) = b → Hid (freeTo l left x (z + 1) = b) := fun b e => by show _ = _; rw [HNx.out, e]
                go_wp2_with fail
                refine D.mono ?_
                rintro e w2 ⟨rfl, b2⟩
                have hb2 := bel_trans hbz b2
                obtain ⟨y0, y1, _⟩ := HC1.out _ (bel_trans hbw hb2)
                have y3 := HCx.out _ hb2
                clear x0 x1 D
                cases fr with
                | false =>
                  have HS := HST false rfl
                  go_wp2_with fail
                  go_quiet (fail)
                  go_wp2_with fail
                  refine ⟨⟨z + 1, by omega, by first | go_num | simp, by first | (rw [HS.out]; done) | (rw [HS.out]; rfl), below_drewN hb2 _⟩, by simp [intOf]; omega⟩
                | true =>
                  by_cases d : t = x
                  · have e1 : (t != x) = false := by rw [d]; simp
                    have HS := HST (!hb) (by rw [decide_eq_true d]; simp)
                    clear d
                    cases hb with
                    | false =>
                      go_wp2_with fail
                      go_quiet (fail)
                      go_wp2_with fail
                      refine ⟨⟨z + 1, by omega, by first | go_num | simp, by first | (rw [HS.out]; done) | (rw [HS.out]; rfl), below_drewN hb2 _⟩, by simp [intOf]; omega⟩
                    | true =>
                      go_wp2_with fail
                      go_quiet (fail)
                      go_wp2_with fail
                      refine ⟨⟨z + 1, by omega, by first | go_num | simp, by first | (rw [HS.out]; done) | (rw [HS.out]; rfl), below_drewN hb2 _⟩, by simp [intOf]; omega⟩
                  · have e1 : (t != x) = true := bne_iff_ne.2 d
                    have HS := HST true (by rw [decide_eq_false d]; rfl)
                    clear d
                    go_wp2_with fail
                    go_quiet (fail)
                    go_wp2_with fail
                    refine ⟨⟨z + 1, by omega, by first | go_num | simp, by first | (rw [HS.out]; done) | (rw [HS.out]; rfl), below_drewN hb2 _⟩, by simp [intOf]; omega⟩
              · obtain rfl : z = m := by omega
                have jz : ¬ (z : Int) < (z : Int) := by omega
                have HFr : Hid (freeTo l left x z = freeB l left (left[q]'hq1)) := by show _ = _; rw [HX.out, ← HM.out]; exact freeTo_all l left x
                have x3 := HCx.out _ hbz
                obtain ⟨fr, hfr⟩ : ∃ b, freeTo l left x z = b := ⟨_, rfl⟩
                rw [hfr] at HFr
                simp only [hfr]
                clear hfr
                cases fr with
                | false =>
                  have HS : Hid (bestTo l left (q + 1) = r) := by show _ = _; rw [bestTo_no l left q hq1 HFr.out.symm]; exact HB.out
                  go_wp2_with fail
                  refine ⟨⟨q + 1, r, by omega, by first | go_num | simp, HS, rfl, rfl, hbz⟩, by simp [intOf]; omega⟩
                | true =>
                  have HY := bestTo_yes l left q hq1 HFr.out.symm
                  rw [HB.out, HX.out] at HY
                  cases r with
                  | none =>
                    have HS : Hid (bestTo l left (q + 1) = some x) := HY
                    clear HY
                    simp only [Option.getD_none, Option.isSome_none]
                    go_wp2_with fail
                    refine ⟨⟨q + 1, some x, by omega, by first | go_num | simp, HS, rfl, rfl, hbz⟩, by simp [intOf]; omega⟩
                  | some y =>
                    simp only [Option.getD_some, Option.isSome_some]
                    by_cases d : x < y
                    · have HS : Hid (bestTo l left (q + 1) = some x) := by show _ = _; rw [HY]; simp only; rw [if_pos d]
                      clear HY
                      go_wp2_with fail
                      refine ⟨⟨q + 1, some x, by omega, by first | go_num | simp, HS, rfl, rfl, hbz⟩, by simp [intOf]; omega⟩
                    · have HS : Hid (bestTo l left (q + 1) = some y) := by show _ = _; rw [HY]; simp only; rw [if_neg d]
                      clear HY
                      go_wp2_with fail
                      refine ⟨⟨q + 1, some y, by omega, by first | go_num | simp, HS, rfl, rfl, hbz⟩, by simp [intOf]; omega⟩
          · obtain rfl : q = c := by omega
            have jq : ¬ (q : Int) < (q : Int) := by omega
            have HBE : Hid (bestL l left = r) := by show _ = _; rw [← bestTo_all, HC.out]; exact HB.out
            cases r with
            | none =>
              have HE : Hid (orderL nodes l = none) := ordI_none nodes l left out HO.out HNE.out HBE.out
              simp only [Option.getD_none, Option.isSome_none]
              go_wp2_with fail
              go_ret2
              exact ⟨_, by rw [HE.out]; rfl, bel_trans hbw hbq, by rw [HE.out]; exact World.ownsRow_nil _ _ _ _⟩
            | some b =>
              have HO2 : Hid (ordI nodes l (dropI b left) (out ++ [b])) := ordI_next nodes l left out b HO.out HNE.out HBE.out
              have hbl := ((best_some l left b).1 HBE.out).1.1
              have hdl : (dropI b left).length < q := by rw [← HC.out]; exact filter_less left b hbl
              simp only [Option.getD_some, Option.isSome_some]
              have orow2 := owns_below orow hbq
              have lrow2 := owns_below hrow hbq
              have sz := (bel_trans hbw hbq).size
              go_wp2_with (at_builtin; refine wpList_append_own _ rfl _ _ 22 rfl w.heap.size 3 i0 (.int .i64 0) 1 8 Try.underlying22 hi hz0 hz1 hz2 rfl (by decide) _ _ _ rfl (orow2.alloc _) ⟨wB.heap.size, 0, none⟩ 1 1 [.int .i64 b] rfl rfl ?d1 ?d2 ?d3 ?d4 ?d5 ?_)
              try
                case d1 => intro j u hj; match j, hj with
                  | 0, hj => simp at hj; subst hj; first | (simp [Addr.add]; done) | exact cell_new7 (by simp) rfl
              try
                case d2 => intro u hu; simp at hu; subst hu; rfl
              try
                case d2 => exact rfl
              try
                case d3 => unfold maxLen; omega
              try
                case d4 => omega
              try
                case d5 => first | omega | (simp; done) | (simp; omega)
              intro v3 w3 own3 g3 _
              have B3 : Below w.heap.size w w3 := ((bel_trans hbw hbq).alloc sz _).grown g3 (by simp; omega) (fun j hj => (orow2.lt j hj).1)
              have lrow3 := apart11_kept (lrow2.alloc (.cells #[.int .i64 b] 3)) g3 HAP.out
              have Tl3 : IsInts w3 (.slice (some ⟨gl, 0, none⟩) q kl) left := ints_own lrow3 (by have := HC.out; omega)
              go_wp2_with fail
              refine (CW b _ Tl3).mono ?_
              rintro e w4 ⟨v4, rfl, b4, own4⟩
              have B4 := bel_trans B3 b4
              have own5 := owns_below own3 b4
              have HAP4 : Hid (Apart11 v3 v4) := apart11_low own3 own4 (Nat.le_refl _)
              have own6 := owns_low own4 B3.size
              obtain ⟨g4, k4, rfl⟩ : ∃ a k, v4 = .slice a (dropI b left).length k := by
                rcases own4.2 with ⟨rfl, h⟩ | ⟨g, cap, cur, rfl, _⟩
                · exact ⟨_, _, by rw [h]⟩
                · exact ⟨_, _, rfl⟩
              have hmeas : slLen (.slice g4 (dropI b left).length k4) < q := hdl
              go_wp2_with fail
              refine ⟨⟨dropI b left, out ++ [b], HO2, by rw [List.length_append]; have := HC.out; simp; omega, B4, own6, by rw [List.length_append, recV_append]; exact own5, HAP4⟩, ?_⟩
              first | exact hmeas | (simp [slLen] at hmeas ⊢; omega)
end Go.Proofs.Ytpfpkpaodlmlaaa
namespace Go.Proofs.Ytpfpkpaodlmlaaa
set_option maxRecDepth 100000
open Go.RowKit
set_option linter.unusedVariables false
attribute [local go_sem] ba_size
/-- Does a step go forward. -/
def okOf : Option Nat → Option Nat → Bool
  | some a, some b => decide (a < b)
  | some _, none => true
  | none, _ => true
def stepOk (o : List Int) (s : Stp) : Bool := okOf (plL o s.1) (plL o s.2.1)
def oneEach (o : List Int) (i : Nat) : Bool := decide (plL o (o.getD i 0) = some i)
def fwdB (o : List Int) (l : List Stp) : Bool := (List.range o.length).all (oneEach o) && l.all (stepOk o)
theorem fwd_no1 (o : List Int) (l : List Stp) (i : Nat) (hi : i < o.length) (h : oneEach o i = false) : fwdB o l = false := by
  unfold fwdB
  rw [Bool.and_eq_false_iff]
  left
  rw [List.all_eq_false]
  exact ⟨i, List.mem_range.2 hi, by rw [h]; decide⟩
theorem fwd_no2 (o : List Int) (l : List Stp) (k : Nat) (hk : k < l.length) (h : stepOk o l[k] = false) : fwdB o l = false := by
  unfold fwdB
  rw [Bool.and_eq_false_iff]
  right
  rw [List.all_eq_false]
  exact ⟨l[k], List.getElem_mem hk, by rw [h]; decide⟩
theorem fwd_yes (o : List Int) (l : List Stp) (h1 : ∀ i, i < o.length → oneEach o i = true) (h2 : ∀ k (hk : k < l.length), stepOk o l[k] = true) : fwdB o l = true := by
  unfold fwdB
  rw [Bool.and_eq_true, List.all_eq_true, List.all_eq_true]
  refine ⟨fun i hi => h1 i (List.mem_range.1 hi), fun s hs => ?_⟩
  obtain ⟨k, hk, rfl⟩ := List.getElem_of_mem hs
  exact h2 k hk
set_option maxHeartbeats 4000000 in
theorem rforward_any (vo vl : Value) (o : List Int) (l : List Stp) (w : World) (hO : IsInts w vo o) (hT : IsSts w vl l) :
    Calls Try.prog 16 #[vo, vl] w fun e w' => e = .returned (.bool (fwdB o l)) ∧ Below w.heap.size w w' := by
  have CP := fun (x : Int) W hW => rplace_any vo o x W (hO.below (w' := W) hW)
  obtain ⟨a, cap, rfl, h1, h2, h3, HC⟩ := IsInts.reads hO
  obtain ⟨al, cl, rfl, p1, p2, p3, HL⟩ := hT.reads
  obtain ⟨n, hn⟩ : ∃ n, o.length = n := ⟨_, rfl⟩
  have HN : Hid (o.length = n) := hn
  obtain ⟨m, hm⟩ : ∃ m, l.length = m := ⟨_, rfl⟩
  have HM : Hid (l.length = m) := hm
  obtain ⟨r, hr⟩ : ∃ r, fwdB o l = r := ⟨_, rfl⟩
  have HR : Hid (fwdB o l = r) := hr
  rw [hr]
  simp only [hn] at CP
  rw [hn] at h1 h3 ⊢
  rw [hm] at p1 p3 ⊢
  clear hT hO hn hm hr
  go_enter Try.func16, Try.ntmps16
  go_wp2_with fail
  go_loopw [5] (fun i wr => ∃ k : Nat, k ≤ n ∧ i = .int .i64 k ∧ Hid (∀ j, j < k → oneEach o j = true) ∧ Below w.heap.size w wr) (fun i _ => n - (intOf i).toNat)
  case atStart => exact ⟨0, Nat.zero_le _, rfl, (fun j hj => by omega), Below.refl _ _⟩
  case round =>
    obtain ⟨k, hk, rfl, HA, hbw⟩ := hrel
    by_cases hlt : k < n
    · have hk1 : k < o.length := by have := HN.out; omega
      have jk : (k : Int) < (n : Int) := by omega
      obtain ⟨bb, off, rfl, HQ⟩ := HC.out (by omega)
      have c0 := HQ.out k hk1 _ hbw
      obtain ⟨y, hy⟩ : ∃ y, o.getD k 0 = y := ⟨_, rfl⟩
      have D := CP y
      obtain ⟨pl, hpl⟩ : ∃ pl, plL o y = pl := ⟨_, rfl⟩
      rw [hpl] at D
      have HO1 : Hid (oneEach o k = decide (pl = some k)) := by show _ = _; unfold oneEach; rw [hy, hpl]
      rw [hy] at c0
      clear hy hpl
      obtain ⟨q, hq⟩ : ∃ q, oI pl = q := ⟨_, rfl⟩
      rw [hq] at D
      by_cases d : pl = some k
      · have e1 : (q != (k : Int)) = false := by rw [← hq, d]; simp [oI]
        have HA2 : Hid (∀ j, j < k + 1 → oneEach o j = true) := fun j hj => by
          rcases Nat.lt_or_ge j k with hj2 | hj2
          · exact HA.out j hj2
          · obtain rfl : j = k := by omega
            rw [HO1.out]; exact decide_eq_true d
        clear d hq
        go_wp2_with fail
        refine (D _ hbw).mono ?_
        rintro e w1 ⟨rfl, b1⟩
        go_wp2_with fail
        refine ⟨⟨k + 1, by omega, by first | go_num | simp, HA2, bel_trans hbw b1⟩, by simp [intOf]; omega⟩
      · have e1 : (q != (k : Int)) = true := by
          rw [bne_iff_ne, ← hq]
          intro hh
          apply d
          cases pl with
          | none => simp only [oI] at hh; omega
          | some z => simp only [oI] at hh; congr 1; omega
        have HF : Hid (r = false) := by show _ = _; rw [← HR.out]; exact fwd_no1 o l k hk1 (by rw [HO1.out]; exact decide_eq_false d)
        clear d hq
        go_wp2_with fail
        refine (D _ hbw).mono ?_
        rintro e w1 ⟨rfl, b1⟩
        go_wp2_with fail
        go_ret
        exact ⟨by rw [HF.out]; rfl, bel_trans hbw b1⟩
    · obtain rfl : k = n := by omega
      have jk : ¬ (k : Int) < (k : Int) := by omega
      go_wp2_with fail
      go_loopw [6] (fun i wq => ∃ q : Nat, q ≤ m ∧ i = .int .i64 q ∧ Hid (∀ j (hj : j < l.length), j < q → stepOk o l[j] = true) ∧ Below w.heap.size w wq) (fun i _ => m - (intOf i).toNat)
      case atStart => exact ⟨0, Nat.zero_le _, rfl, (fun j _ hj => by omega), hbw⟩
      case round =>
        obtain ⟨q, hq, rfl, HB, hbq⟩ := hrel
        by_cases hlq : q < m
        · have hq1 : q < l.length := by have := HM.out; omega
          have jq : (q : Int) < (m : Int) := by omega
          obtain ⟨bs, os, rfl, u, _, C1⟩ := HL.out q hq1
          have HC1 := Lib.hid C1
          obtain ⟨⟨f, t, E⟩, hx⟩ : ∃ x, l[q] = x := ⟨_, rfl⟩
          rw [hx] at HC1
          have HX : Hid (l[q]'hq1 = (f, t, E)) := hx
          clear hx C1
          obtain ⟨x0, x1, _⟩ := HC1.out _ hbq
          have D1 := CP f
          have D2 := CP t
          obtain ⟨pa, hpa⟩ : ∃ pa, plL o f = pa := ⟨_, rfl⟩
          obtain ⟨pb, hpb⟩ : ∃ pb, plL o t = pb := ⟨_, rfl⟩
          have HO2 : Hid (stepOk o (l[q]'hq1) = okOf pa pb) := by show _ = _; rw [HX.out]; unfold stepOk; rw [hpa, hpb]
          have HB2 : Hid (stepOk o (l[q]'hq1) = true → ∀ j (hj : j < l.length), j < q + 1 → stepOk o l[j] = true) := fun hh j hj hlt => by
            rcases Nat.lt_or_ge j q with hj2 | hj2
            · exact HB.out j hj hj2
            · obtain rfl : j = q := by omega
              exact hh
          have HF2 : Hid (stepOk o (l[q]'hq1) = false → r = false) := fun hh => by rw [← HR.out]; exact fwd_no2 o l q hq1 hh
          rw [hpa] at D1
          rw [hpb] at D2
          clear hpa hpb
          cases pa with
          | none =>
            have HS := Lib.hid (HB2.out HO2.out)
            obtain ⟨zb, hzb⟩ : ∃ z, oI pb = z := ⟨_, rfl⟩
            rw [hzb] at D2
            clear hzb
            simp only [oI] at D1
            go_wp2_with fail
            refine (D1 _ hbq).mono ?_
            rintro e w1 ⟨rfl, b1⟩
            have B1 := bel_trans hbq b1
            obtain ⟨y0, y1, _⟩ := HC1.out _ B1
            clear x0 x1
            go_wp2_with fail
            refine (D2 _ B1).mono ?_
            rintro e w2 ⟨rfl, b2⟩
            have B2 := bel_trans B1 b2
            go_wp2_with fail
            refine ⟨⟨q + 1, by omega, by first | go_num | simp, HS, B2⟩, by simp [intOf]; omega⟩
          | some pa =>
            have ja : ¬ (pa : Int) < 0 := by omega
            have ja2 : (0 : Int) ≤ (pa : Int) := by omega
            cases pb with
            | none =>
              have HS := Lib.hid (HB2.out HO2.out)
              simp only [oI] at D1 D2
              go_wp2_with fail
              refine (D1 _ hbq).mono ?_
              rintro e w1 ⟨rfl, b1⟩
              have B1 := bel_trans hbq b1
              obtain ⟨y0, y1, _⟩ := HC1.out _ B1
              clear x0 x1
              go_wp2_with fail
              refine (D2 _ B1).mono ?_
              rintro e w2 ⟨rfl, b2⟩
              have B2 := bel_trans B1 b2
              go_wp2_with fail
              refine ⟨⟨q + 1, by omega, by first | go_num | simp, HS, B2⟩, by simp [intOf]; omega⟩
            | some pb =>
              have jb : ¬ (pb : Int) < 0 := by omega
              have jb2 : (0 : Int) ≤ (pb : Int) := by omega
              by_cases d : pa < pb
              · have HS := Lib.hid (HB2.out (by rw [HO2.out]; exact decide_eq_true d))
                have j1 : ¬ (pb : Int) ≤ (pa : Int) := by omega
                have j2 : ¬ pb ≤ pa := by omega
                simp only [oI] at D1 D2
                go_wp2_with fail
                refine (D1 _ hbq).mono ?_
                rintro e w1 ⟨rfl, b1⟩
                have B1 := bel_trans hbq b1
                obtain ⟨y0, y1, _⟩ := HC1.out _ B1
                clear x0 x1
                go_wp2_with fail
                refine (D2 _ B1).mono ?_
                rintro e w2 ⟨rfl, b2⟩
                have B2 := bel_trans B1 b2
                go_wp2_with fail
                refine ⟨⟨q + 1, by omega, by first | go_num | simp, HS, B2⟩, by simp [intOf]; omega⟩
              · have HS := Lib.hid (HF2.out (by rw [HO2.out]; exact decide_eq_false d))
                have j1 : (pb : Int) ≤ (pa : Int) := by omega
                have j2 : pb ≤ pa := by omega
                simp only [oI] at D1 D2
                go_wp2_with fail
                refine (D1 _ hbq).mono ?_
                rintro e w1 ⟨rfl, b1⟩
                have B1 := bel_trans hbq b1
                obtain ⟨y0, y1, _⟩ := HC1.out _ B1
                clear x0 x1
                go_wp2_with fail
                refine (D2 _ B1).mono ?_
                rintro e w2 ⟨rfl, b2⟩
                have B2 := bel_trans B1 b2
                go_wp2_with fail
                go_ret
                exact ⟨by rw [HS.out]; rfl, B2⟩
        · obtain rfl : q = m := by omega
          have jq : ¬ (q : Int) < (q : Int) := by omega
          have HF : Hid (r = true) := by show _ = _; rw [← HR.out]; exact fwd_yes o l (fun i hi => HA.out i (by rw [← HN.out]; exact hi)) (fun j hj => HB.out j hj (by rw [← HM.out]; exact hj))
          go_wp2_with fail
          go_ret
          exact ⟨by rw [HF.out]; rfl, hbq⟩
/-- Whether steps are a ring. -/
def nxtI (n i : Nat) : Nat := if i + 1 = n then 0 else i + 1
def meetB (l : List Stp) (i : Nat) : Bool := decide ((l.getD i (0, 0, [])).2.1 = (l.getD (nxtI l.length i) (0, 0, [])).1)
def clB (l : List Stp) : Bool := decide (0 < l.length) && (List.range l.length).all (meetB l)
theorem cl_no (l : List Stp) (i : Nat) (hi : i < l.length) (h : meetB l i = false) : clB l = false := by
  unfold clB
  rw [Bool.and_eq_false_iff]
  right
  rw [List.all_eq_false]
  exact ⟨i, List.mem_range.2 hi, by rw [h]; decide⟩
theorem cl_yes (l : List Stp) (h : ∀ i, i < l.length → meetB l i = true) : clB l = decide (0 < l.length) := by
  unfold clB
  rw [List.all_eq_true.2 (fun i hi => h i (List.mem_range.1 hi)), Bool.and_true]
theorem getS_at (l : List Stp) (k : Nat) (hk : k < l.length) : l.getD k (0, 0, []) = l[k] := by rw [List.getD_eq_getElem?_getD, List.getElem?_eq_getElem hk, Option.getD_some]
set_option maxHeartbeats 4000000 in
theorem rclosed_any (vl : Value) (l : List Stp) (w : World) (hT : IsSts w vl l) :
    Calls Try.prog 21 #[vl] w fun e w' => e = .returned (.bool (clB l)) ∧ Below w.heap.size w w' := by
  obtain ⟨al, cl, rfl, p1, p2, p3, HL⟩ := hT.reads
  obtain ⟨m, hm⟩ : ∃ m, l.length = m := ⟨_, rfl⟩
  have HM : Hid (l.length = m) := hm
  obtain ⟨r, hr⟩ : ∃ r, clB l = r := ⟨_, rfl⟩
  have HR : Hid (clB l = r) := hr
  rw [hr]
  rw [hm] at p1 p3 ⊢
  clear hT hm hr
  go_enter Try.func21, Try.ntmps21
  go_wp2_with fail
  go_loopw [3] (fun i wq => ∃ q : Nat, q ≤ m ∧ i = .int .i64 q ∧ Hid (∀ j, j < q → meetB l j = true) ∧ Below w.heap.size w wq) (fun i _ => m - (intOf i).toNat)
  case atStart => exact ⟨0, Nat.zero_le _, rfl, (fun j hj => by omega), Below.refl _ _⟩
  case round =>
    obtain ⟨q, hq, rfl, HB, hbq⟩ := hrel
    by_cases hlq : q < m
    · have hq1 : q < l.length := by have := HM.out; omega
      have jq : (q : Int) < (m : Int) := by omega
      have hx1 : nxtI m q < l.length := by rw [HM.out]; unfold nxtI; split <;> omega
      obtain ⟨bs, os, rfl, u, _, C1⟩ := HL.out q hq1
      obtain ⟨bs', os', hbo, u', _, C2⟩ := HL.out (nxtI m q) hx1
      obtain ⟨rfl, rfl⟩ : bs = bs' ∧ os = os' := by simpa using hbo
      obtain ⟨_, x1, _⟩ := C1 _ hbq
      obtain ⟨y0, _, _⟩ := C2 _ hbq
      have HO : Hid (meetB l q = decide ((l[q]'hq1).2.1 = (l[nxtI m q]'hx1).1)) := by show _ = _; unfold meetB; rw [HM.out, getS_at l q hq1, getS_at l _ hx1]
      obtain ⟨t, ht⟩ : ∃ t, (l[q]'hq1).2.1 = t := ⟨_, rfl⟩
      obtain ⟨f, hf⟩ : ∃ f, (l[nxtI m q]'hx1).1 = f := ⟨_, rfl⟩
      rw [ht, hf] at HO
      rw [ht] at x1
      rw [hf] at y0
      clear ht hf C1 C2 hbo
      have HB2 : Hid (meetB l q = true → ∀ j, j < q + 1 → meetB l j = true) := fun hh j hlt => by
        rcases Nat.lt_or_ge j q with hj2 | hj2
        · exact HB.out j hj2
        · obtain rfl : j = q := by omega
          exact hh
      have HF2 : Hid (meetB l q = false → r = false) := fun hh => by rw [← HR.out]; exact cl_no l q hq1 hh
      by_cases dn : q + 1 = m
      · have e0 : nxtI m q = 0 := by unfold nxtI; rw [if_pos dn]
        rw [e0] at y0
        simp only [Nat.zero_mul, Nat.add_zero] at y0
        have z1 : ((q : Int) + 1 == (m : Int)) = true := by rw [beq_iff_eq]; omega
        have z2 : (0 : Int) < (m : Int) := by omega
        have z3 : 0 < m := by omega
        have z4 : (q : Int) + 1 = (m : Int) := by omega
        clear e0 dn
        by_cases d : t = f
        · have e1 : (t != f) = false := by rw [d]; simp
          have HS := Lib.hid (HB2.out (by rw [HO.out]; exact decide_eq_true d))
          clear d
          go_wp2_with fail
          go_quiet (fail)
          go_wp2_with fail
          refine ⟨⟨q + 1, by omega, by first | go_num | simp, HS, below_drewN hbq _⟩, by simp [intOf]; omega⟩
        · have e1 : (t != f) = true := bne_iff_ne.2 d
          have HS := Lib.hid (HF2.out (by rw [HO.out]; exact decide_eq_false d))
          clear d
          go_wp2_with fail
          go_quiet (fail)
          go_wp2_with fail
          go_ret
          exact ⟨by rw [HS.out]; rfl, below_drewN hbq _⟩
      · have e0 : nxtI m q = q + 1 := by unfold nxtI; rw [if_neg dn]
        rw [e0] at y0
        have z1 : ((q : Int) + 1 == (m : Int)) = false := by rw [beq_eq_false_iff_ne]; omega
        have z2 : (q : Int) + 1 < (m : Int) := by omega
        have z3 : q + 1 < m := by omega
        have z5 : ¬ (q : Int) + 1 = (m : Int) := by omega
        clear e0 dn
        by_cases d : t = f
        · have e1 : (t != f) = false := by rw [d]; simp
          have HS := Lib.hid (HB2.out (by rw [HO.out]; exact decide_eq_true d))
          clear d
          go_wp2_with fail
          go_quiet (fail)
          go_wp2_with fail
          refine ⟨⟨q + 1, by omega, by first | go_num | simp, HS, below_drewN hbq _⟩, by simp [intOf]; omega⟩
        · have e1 : (t != f) = true := bne_iff_ne.2 d
          have HS := Lib.hid (HF2.out (by rw [HO.out]; exact decide_eq_false d))
          clear d
          go_wp2_with fail
          go_quiet (fail)
          go_wp2_with fail
          go_ret
          exact ⟨by rw [HS.out]; rfl, below_drewN hbq _⟩
    · obtain rfl : q = m := by omega
      have jq : ¬ (q : Int) < (q : Int) := by omega
      have HF : Hid (r = decide (0 < q)) := by show _ = _; rw [← HR.out, cl_yes l (fun i hi => HB.out i (by rw [← HM.out]; exact hi)), HM.out]
      by_cases d0 : 0 < q
      · have z1 : (0 : Int) < (q : Int) := by omega
        rw [decide_eq_true d0] at HF
        go_wp2_with fail
        go_ret
        exact ⟨by rw [HF.out]; rfl, hbq⟩
      · have z1 : ¬ (0 : Int) < (q : Int) := by omega
        rw [decide_eq_false d0] at HF
        go_wp2_with fail
        go_ret
        exact ⟨by rw [HF.out]; rfl, hbq⟩
end Go.Proofs.Ytpfpkpaodlmlaaa
namespace Go.Proofs.Ytpfpkpaodlmlaaa
set_option maxRecDepth 100000
open Go.RowKit
set_option linter.unusedVariables false
theorem sl_info : (Try.prog.info? 22).map (fun i => (i.zero, i.size, i.bytes)) = some (some (.slice none 0 0), 1, 24) := by kernel_rfl
/-- A row that was made by its elements. -/
theorem own_lit (w : World) (e k n : Nat) (xs : List Value) (hx : xs.length = n * k) (hs : n ≤ 1000) : (w.alloc (.cells xs.toArray e)).ownsRow w.heap.size e k (.slice (some ⟨w.heap.size, 0, none⟩) n n) n xs :=
  ⟨hx, .inr ⟨w.heap.size, n, _, rfl, Nat.le_refl _, SBox.new w e _, Nat.le_refl _, by unfold maxLen; omega, by rw [List.size_toArray, hx], by rw [List.toList_toArray, List.take_of_length_le (by rw [hx]; exact Nat.le_refl _)]⟩⟩
/-- Rows of unlike types lie in unlike blocks. -/
theorem apart_types {W : World} {B B' e e' k k' n n' : Nat} {r v : Value} {xs ys : List Value} (hr : W.ownsRow B e k r n xs) (hv : W.ownsRow B' e' k' v n' ys) (hne : e ≠ e') : Apart11 r v := by
  intro g h1 h2
  rcases hr.2 with ⟨rfl, _⟩ | ⟨g1, c1, u1, rfl, _, b1, _⟩
  · simp [Value.ownBlock] at h2
  · rcases hv.2 with ⟨rfl, _⟩ | ⟨g2, c2, u2, rfl, _, b2, _⟩
    · simp [Value.ownBlock] at h1
    · obtain rfl : g1 = g := by simpa [Value.ownBlock] using h2
      obtain rfl : g2 = g1 := by simpa [Value.ownBlock] using h1
      rw [b1] at b2
      simp at b2
      exact hne b2.2
def WaysOk (w W : World) (l : List Stp) (to : Int) (Vs : List Value) : Prop := ∀ (n : Nat) u, Vs[n]? = some u → ∃ N : List Int, W.ownsRow w.heap.size 3 1 u N.length (recV intV N) ∧ N.length ≤ l.length + 1 ∧ ∀ x, x ∈ N ↔ wayB l to n x = true
theorem WaysOk.below {w W W' : World} {l : List Stp} {to : Int} {Vs : List Value} (h : WaysOk w W l to Vs) (hb : Below W.heap.size W W') : WaysOk w W' l to Vs := fun n u hu => by
  obtain ⟨N, h1, h2⟩ := h n u hu
  exact ⟨N, owns_below h1 hb, h2⟩
theorem WaysOk.grown {w W W' : World} {l : List Stp} {to : Int} {Vs : List Value} {B k n : Nat} {r : Value} {xs : List Value} (h : WaysOk w W l to Vs) (hr : W.ownsRow B 22 k r n xs) (hne : 22 ≠ 3) (hg : W.grownBy W' r.ownBlock) : WaysOk w W' l to Vs := fun j u hu => by
  obtain ⟨N, h1, h2⟩ := h j u hu
  exact ⟨N, apart11_kept h1 hg (apart_types hr h1 hne), h2⟩
theorem WaysOk.push {w W : World} {l : List Stp} {to : Int} {Vs : List Value} (h : WaysOk w W l to Vs) (u : Value) (N : List Int) (h1 : W.ownsRow w.heap.size 3 1 u N.length (recV intV N)) (h2 : N.length ≤ l.length + 1) (h3 : ∀ x, x ∈ N ↔ wayB l to Vs.length x = true) : WaysOk w W l to (Vs ++ [u]) := fun n u' hu => by
  rcases Nat.lt_or_ge n Vs.length with hn | hn
  · rw [List.getElem?_append_left hn] at hu
    exact h n u' hu
  · rw [List.getElem?_append_right hn] at hu
    rcases Nat.eq_zero_or_pos (n - Vs.length) with h0 | h0
    · rw [h0] at hu
      simp only [List.getElem?_cons_zero, Option.some.injEq] at hu
      subst hu
      obtain rfl : n = Vs.length := by omega
      exact ⟨N, h1, h2, h3⟩
    · rw [List.getElem?_eq_none (by simp; omega)] at hu
      cases hu
/-- Who reaches it in one step more, up to a number of steps. -/
def nextP (l : List Stp) (to : Int) (n z : Nat) (x : Int) : Prop := ∃ j, ∃ h : j < l.length, j < z ∧ l[j].1 = x ∧ wayB l to n l[j].2.1 = true
theorem nextP_all (l : List Stp) (to : Int) (n : Nat) (x : Int) : nextP l to n l.length x ↔ wayB l to (n + 1) x = true := by
  rw [wayB, List.any_eq_true]
  constructor
  · rintro ⟨j, hj, _, h1, h2⟩
    exact ⟨l[j], List.getElem_mem hj, by simp [h1, h2]⟩
  · rintro ⟨s, hs, h⟩
    obtain ⟨j, hj, rfl⟩ := List.getElem_of_mem hs
    rw [Bool.and_eq_true, decide_eq_true_eq] at h
    exact ⟨j, hj, hj, h.1, h.2⟩
theorem nextP_no (l : List Stp) (to : Int) (n z : Nat) (x : Int) (hz : z < l.length) (h : wayB l to n l[z].2.1 = false) : nextP l to n (z + 1) x ↔ nextP l to n z x := by
  constructor
  · rintro ⟨j, hj, h0, h1, h2⟩
    rcases Nat.lt_or_ge j z with h' | h'
    · exact ⟨j, hj, h', h1, h2⟩
    · obtain rfl : j = z := by omega
      rw [h] at h2; cases h2
  · rintro ⟨j, hj, h0, h1, h2⟩
    exact ⟨j, hj, by omega, h1, h2⟩
theorem nextP_yes (l : List Stp) (to : Int) (n z : Nat) (x : Int) (hz : z < l.length) (h : wayB l to n l[z].2.1 = true) : nextP l to n (z + 1) x ↔ x = l[z].1 ∨ nextP l to n z x := by
  constructor
  · rintro ⟨j, hj, h0, h1, h2⟩
    rcases Nat.lt_or_ge j z with h' | h'
    · exact .inr ⟨j, hj, h', h1, h2⟩
    · obtain rfl : j = z := by omega
      exact .inl h1.symm
  · rintro (rfl | ⟨j, hj, h0, h1, h2⟩)
    · exact ⟨z, hz, by omega, rfl, h⟩
    · exact ⟨j, hj, by omega, h1, h2⟩
def WaysRes (w : World) (l : List Stp) (to : Int) (many : Nat) (e : Ending) (w' : World) : Prop := ∃ v Vs, e = .returned v ∧ Below w.heap.size w w' ∧ Vs.length = many + 1 ∧ w'.ownsRow w.heap.size 22 1 v (many + 1) Vs ∧ WaysOk w w' l to Vs
end Go.Proofs.Ytpfpkpaodlmlaaa
namespace Go.Proofs.Ytpfpkpaodlmlaaa
set_option maxRecDepth 100000
open Go.RowKit
set_option linter.unusedVariables false
section
variable {α : Type}
theorem ringAt_none (l : List (Sp α)) (n : Nat) (h : ∀ j (hj : j < (startsL l).length), wayB l (startsL l)[j] n (startsL l)[j] = false) : ringAt l n = none := by
  unfold ringAt
  rw [List.find?_eq_none]
  intro s hs
  obtain ⟨j, hj, rfl⟩ := List.getElem_of_mem hs
  rw [h j hj]; decide
theorem ringAt_some (l : List (Sp α)) (n k : Nat) (hk : k < (startsL l).length) (h : ∀ j (hj : j < (startsL l).length), j < k → wayB l (startsL l)[j] n (startsL l)[j] = false) (hy : wayB l (startsL l)[k] n (startsL l)[k] = true) : ringAt l n = some (startsL l)[k] := by
  unfold ringAt
  rw [List.find?_eq_some_iff_getElem]
  refine ⟨hy, k, hk, rfl, fun j hj => ?_⟩
  rw [h j (by omega) hj]; rfl
theorem ringL_none (l : List (Sp α)) (h : ∀ j, 1 ≤ j → j ≤ (startsL l).length → ringAt l j = none) : ringL l = none := by
  have : ringN l = none := by
    unfold ringN
    rw [fi_none]
    intro i hi
    rw [h (i + 1) (by omega) (by omega)]; rfl
  unfold ringL
  rw [this]
theorem ringL_some (l : List (Sp α)) (n : Nat) (s : Int) (hn : n < (startsL l).length) (h : ∀ j, 1 ≤ j → j < n + 1 → ringAt l j = none) (hs : ringAt l (n + 1) = some s) : ringL l = some (ringPath l s (n + 1) s) := by
  have : ringN l = some n := by
    unfold ringN
    rw [fi_some]
    refine ⟨hn, by rw [hs]; rfl, fun j hj => ?_⟩
    rw [h (j + 1) (by omega) (by omega)]; rfl
  unfold ringL
  rw [this]
  simp only
  rw [hs]
theorem path_next (l : List (Sp α)) (to : Int) (q : Nat) (a : Int) (i : Nat) (hi : i < l.length) (h1 : l[i].1 = a) (h2 : wayB l to q l[i].2.1 = true) (h3 : ∀ j (hj : j < l.length), j < i → ¬ (l[j].1 = a ∧ wayB l to q l[j].2.1 = true)) : ringPath l to (q + 1) a = l[i] :: ringPath l to q l[i].2.1 := by
  rw [ringPath]
  have : (l.find? fun s => decide (s.1 = a) && wayB l to q s.2.1) = some l[i] := by
    rw [List.find?_eq_some_iff_getElem]
    refine ⟨by simp [h1, h2], i, hi, rfl, fun j hj => ?_⟩
    have := h3 j (by omega) hj
    by_cases e : l[j].1 = a
    · cases hw : wayB l to q l[j].2.1 with
      | true => exact absurd ⟨e, hw⟩ this
      | false => simp
    · simp [e]
  rw [this]
theorem way_has (l : List (Sp α)) (to : Int) (q : Nat) (a : Int) (h : wayB l to (q + 1) a = true) : ∃ i, ∃ hi : i < l.length, l[i].1 = a ∧ wayB l to q l[i].2.1 = true := by
  rw [wayB, List.any_eq_true] at h
  obtain ⟨s, hs, h⟩ := h
  obtain ⟨i, hi, rfl⟩ := List.getElem_of_mem hs
  rw [Bool.and_eq_true, decide_eq_true_eq] at h
  exact ⟨i, hi, h.1, h.2⟩
end
def PathS (l : List Stp) (s a : Int) (q : Nat) (P : List Stp) (k : Nat) (b : Bool) (i : Nat) (a' : Int) (Q : List Stp) (kk : Nat) : Prop :=
  (b = false ∧ a' = a ∧ Q = P ∧ kk = k ∧ ∀ j (hj : j < l.length), j < i → ¬ (l[j].1 = a ∧ wayB l s q l[j].2.1 = true)) ∨ (b = true ∧ kk = k + 1 ∧ wayB l s q a' = true ∧ P ++ ringPath l s (q + 1) a = Q ++ ringPath l s q a')
def RingRes (t : TypeId) (w : World) (r : Option (List Stp)) (e : Ending) (w' : World) : Prop := ∃ v L', e = .returned (.tuple #[v, .bool r.isSome]) ∧ Below w.heap.size w w' ∧ w'.ownsRow w.heap.size t 3 v L'.length (recV stV L') ∧ StOf w' L' (r.getD [])
theorem StOf.nil (W : World) : StOf W [] [] := ⟨rfl, fun i x s h => by simp at h⟩
theorem StOf.push {W : World} {L' : List SVt} {L : List Stp} (h : StOf W L' L) (a b : Int) (u : Value) (E : List Ed) (hE : IsEds W u E) : StOf W (L' ++ [(a, b, u)]) (L ++ [(a, b, E)]) := by
  refine ⟨by simp [h.1], fun i x s hx hs => ?_⟩
  rcases Nat.lt_or_ge i L'.length with hi | hi
  · rw [List.getElem?_append_left hi] at hx
    rw [List.getElem?_append_left (by rw [← h.1]; exact hi)] at hs
    exact h.2 i x s hx hs
  · rw [List.getElem?_append_right hi] at hx
    rw [List.getElem?_append_right (by rw [← h.1]; exact hi)] at hs
    rw [h.1] at hx
    rcases Nat.eq_zero_or_pos (i - L.length) with h0 | h0
    · rw [h0] at hx hs
      simp only [List.getElem?_cons_zero, Option.some.injEq] at hx hs
      subst hx hs
      exact ⟨rfl, rfl, hE⟩
    · rw [List.getElem?_eq_none (by simp; omega)] at hx
      cases hx
end Go.Proofs.Ytpfpkpaodlmlaaa
namespace Go.Proofs.Ytpfpkpaodlmlaaa
set_option maxRecDepth 100000
open Go.RowKit
set_option linter.unusedVariables false
def okS (t : Int) : Prop := -9223372036854775808 ≤ t ∧ t ≤ 9223372036854775807
def goodSt (x : Stp) : Prop := okS x.1 ∧ okS x.2.1 ∧ x.2.2.length ≤ 3518437208780
structure P11C (nb lb : Nat) : Prop where
  order : ∀ (nodes : List Int) (l : List Stp) (vn vl : Value) (w : World), IsInts w vn nodes → Shp vn → (∀ x ∈ nodes, okS x) → IsSts w vl l → Shp vl → (∀ x ∈ l, goodSt x) → nodes.length ≤ nb → l.length ≤ lb → Calls Try.prog 12 #[vn, vl] w fun e w' => OrdRes w (orderL nodes l) e w'
  closed : ∀ (l : List Stp) (vl : Value) (w : World), IsSts w vl l → Shp vl → (∀ x ∈ l, goodSt x) → l.length ≤ lb → Calls Try.prog 20 #[vl] w fun e w' => e = .returned (.bool (clB l)) ∧ Below w.heap.size w w'
  ring : ∀ (l : List Stp) (vl : Value) (w : World), IsSts w vl l → Shp vl → (∀ x ∈ l, goodSt x) → l.length ≤ lb → Calls Try.prog 17 #[vl] w fun e w' => RingRes 37 w (ringL l) e w'
  forward : ∀ (o : List Int) (l : List Stp) (vo vl : Value) (w : World), IsInts w vo o → Shp vo → (∀ x ∈ o, okS x) → IsSts w vl l → Shp vl → (∀ x ∈ l, goodSt x) → o.length ≤ nb → l.length ≤ lb → Calls Try.prog 15 #[vo, vl] w fun e w' => e = .returned (.bool (fwdB o l)) ∧ Below w.heap.size w w'
end Go.Proofs.Ytpfpkpaodlmlaaa
