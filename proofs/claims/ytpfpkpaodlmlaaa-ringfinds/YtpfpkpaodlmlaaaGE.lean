/-
  Edges in rows; committed transactions: of no program but for the types.
  Steps in rows (two numbers and a row of edges an element): of no program but for the types.
  Lives and numbers in rows; what is found, as a value: of no program but for the types.
  The cells of a row of records, as what is appended; an empty row, made: of no program.
  Bounds of what histories give: in lists.
  Versions, as a statement goes through them: in lists; a row of numbers, read.
-/
import Derived.Test.YtpfpkpaodlmlaaaProg
import Derived.Test.YtpfpkpaodlmlaaaGA
import Derived.Test.YtpfpkpaodlmlaaaGC
import Derived.Test.YtpfpkpaodlmlaaaGD
import Derived.Test.YtpfpkpaodlmlaaaGB
namespace Go.Proofs.Ytpfpkpaodlmlaaa
set_option maxRecDepth 100000
open Go.RowKit
set_option linter.unusedVariables false
def edV (x : Ed) : List Value := [.int .i64 x.1, .int .i64 x.2.1, .int .i64 x.2.2.1, .int .i64 x.2.2.2.1, .int .i64 x.2.2.2.2]
theorem edV_len (x : Ed) : (edV x).length = 5 := rfl
theorem edV_one (x : Ed) : ∀ u ∈ edV x, u.oneCell' = true := by
  intro u hu
  simp [edV] at hu
  rcases hu with rfl | rfl | rfl | rfl | rfl <;> rfl
abbrev IsEds (w : World) (v : Value) (L : List Ed) : Prop := IsRec 5 edV w v L
abbrev edA (x : Ed) : Value := .agg #[.int .i64 x.1, .int .i64 x.2.1, .int .i64 x.2.2.1, .int .i64 x.2.2.2.1, .int .i64 x.2.2.2.2]
theorem ed_info : (Try.prog.info? 66).map (fun i => (i.zero, i.size, i.bytes)) = some (some (.agg #[.int .i64 0, .int .i64 0, .int .i64 0, .int .i64 0, .int .i64 0]), 5, 40) := by kernel_rfl
theorem size_ed : (Try.prog.info? 66).map (·.size) = some 5 := by kernel_rfl
def EdRow (t : TypeId) (w : World) (L : List Ed) (e : Ending) (w' : World) : Prop := ∃ v, e = .returned v ∧ Below w.heap.size w w' ∧ w'.ownsRow w.heap.size t 5 v L.length (recV edV L)
theorem comm_none (h : List Ev) (t : Int) (he : endL h t h.length = none) : commL h t = none := by unfold commL; rw [he]
theorem comm_yes (h : List Ev) (t : Int) (e : Nat) (he : endL h t h.length = some e) (h4 : (ev h e).1 = 4) : commL h t = some e := by unfold commL; rw [he]; simp only; rw [if_pos h4]
theorem comm_no (h : List Ev) (t : Int) (e : Nat) (he : endL h t h.length = some e) (h4 : (ev h e).1 ≠ 4) : commL h t = none := by unfold commL; rw [he]; simp only; rw [if_neg h4]
end Go.Proofs.Ytpfpkpaodlmlaaa
namespace Go.Proofs.Ytpfpkpaodlmlaaa
set_option maxRecDepth 100000
open Go.RowKit
set_option linter.unusedVariables false
abbrev SVt := Int × Int × Value
def stV (x : SVt) : List Value := [.int .i64 x.1, .int .i64 x.2.1, x.2.2]
theorem stV_len (x : SVt) : (stV x).length = 3 := rfl
theorem st_info : (Try.prog.info? 37).map (fun i => (i.zero, i.size, i.bytes)) = some (some (.agg #[.int .i64 0, .int .i64 0, .slice none 0 0]), 3, 40) := by kernel_rfl
theorem size_st : (Try.prog.info? 37).map (·.size) = some 3 := by kernel_rfl
structure StAt (W : World) (x : SVt) (s : Stp) : Prop where
  from_ : x.1 = s.1
  to_ : x.2.1 = s.2.1
  eds : IsEds W x.2.2 s.2.2
def StOf (W : World) (L' : List SVt) (L : List Stp) : Prop := L'.length = L.length ∧ ∀ (i : Nat) x s, L'[i]? = some x → L[i]? = some s → StAt W x s
def IsSts (W : World) (v : Value) (L : List Stp) : Prop := ∃ L', IsRec 3 stV W v L' ∧ StOf W L' L
def StRow (t : TypeId) (w : World) (L : List Stp) (e : Ending) (w' : World) : Prop := ∃ v L', e = .returned v ∧ Below w.heap.size w w' ∧ w'.ownsRow w.heap.size t 3 v L'.length (recV stV L') ∧ StOf w' L' L
theorem StOf.below {W W' : World} {L' : List SVt} {L : List Stp} (h : StOf W L' L) (hb : Below W.heap.size W W') : StOf W' L' L :=
  ⟨h.1, fun i x s hx hs => ⟨(h.2 i x s hx hs).from_, (h.2 i x s hx hs).to_, (h.2 i x s hx hs).eds.below hb⟩⟩
theorem IsSts.below {W W' : World} {v : Value} {L : List Stp} (h : IsSts W v L) (hb : Below W.heap.size W W') : IsSts W' v L := by
  obtain ⟨L', h1, h2⟩ := h
  exact ⟨L', h1.below hb, h2.below hb⟩
theorem IsSts.own {W : World} {B e : Nat} {v : Value} {L' : List SVt} {L : List Stp} (h : W.ownsRow B e 3 v L'.length (recV stV L')) (hs : StOf W L' L) (hn : L'.length ≤ 140737488351232) : IsSts W v L :=
  ⟨L', IsRec.own stV_len (by omega) h hn, hs⟩
theorem IsSts.len {W : World} {v : Value} {L : List Stp} (h : IsSts W v L) : ∃ a cap, v = .slice a L.length cap ∧ L.length ≤ cap ∧ cap ≤ 9223372036854775807 ∧ L.length ≤ 140737488351232 := by
  obtain ⟨L', h1, h2⟩ := h
  obtain ⟨a, cap, rfl, a1, a2, a3, _⟩ := h1.some_at
  rw [h2.1] at a1 a3 ⊢
  exact ⟨a, cap, rfl, a1, a2, a3⟩
/-- What a row of steps reads as, at whatever later world. -/
theorem IsSts.reads {W : World} {v : Value} {L : List Stp} (h : IsSts W v L) : ∃ a cap, v = .slice a L.length cap ∧ L.length ≤ cap ∧ cap ≤ 9223372036854775807 ∧ L.length ≤ 140737488351232 ∧
    Hid (∀ k (hk : k < L.length), ∃ b off, a = some ⟨b, off, none⟩ ∧ ∃ u, IsEds W u L[k].2.2 ∧ ∀ V, Below W.heap.size W V → V.cell? ⟨b, off + k * 3, none⟩ = some (.int .i64 L[k].1) ∧ V.cell? ⟨b, off + k * 3 + 1, none⟩ = some (.int .i64 L[k].2.1) ∧ V.cell? ⟨b, off + k * 3 + 2, none⟩ = some u) := by
  obtain ⟨L', h1, h2⟩ := h
  obtain ⟨a, cap, rfl, a1, a2, a3, HC⟩ := h1.some_at
  have hl := h2.1
  rw [hl] at a1 a3
  refine ⟨a, cap, by rw [hl], a1, a2, a3, ?_⟩
  intro k hk
  have hk' : k < L'.length := by omega
  obtain ⟨b, off, rfl, hlt, hc⟩ := HC.out k hk'
  have g := h2.2 k _ _ (List.getElem?_eq_getElem hk') (List.getElem?_eq_getElem hk)
  refine ⟨b, off, rfl, L'[k].2.2, g.eds, fun V hV => ?_⟩
  rw [← g.from_, ← g.to_]
  exact ⟨(hV.cell (p := ⟨b, off + k * 3, none⟩) hlt).trans (hc 0 _ rfl), (hV.cell (p := ⟨b, off + k * 3 + 1, none⟩) hlt).trans (hc 1 _ rfl), (hV.cell (p := ⟨b, off + k * 3 + 2, none⟩) hlt).trans (hc 2 _ rfl)⟩
/-- A row of edges in a block of its own. -/
def EdB (W : World) (v : Value) (l : List Ed) : Prop := ∃ b, v = .slice (some ⟨b, 0, none⟩) l.length l.length ∧ W.heap[b]? = some (.cells (recV edV l).toArray 66 (0, 0))
theorem EdB.eds {W : World} {v : Value} {l : List Ed} (h : EdB W v l) (hl : l.length ≤ 1000) : IsEds W v l := by
  obtain ⟨b, rfl, hb⟩ := h
  refine ⟨_, _, _, rfl, rfl, Nat.le_refl _, by omega, by omega, .inr ⟨b, 0, rfl, (Array.getElem?_eq_some_iff.1 hb).1, fun i hi j u hu => ?_⟩⟩
  have hj : j < 5 := by rw [← edV_len l[i]]; exact (List.getElem?_eq_some_iff.1 hu).1
  rw [cell_of_block hb, Nat.zero_add, List.getElem?_toArray, recV_get edV_len l i hi j hj]
  exact hu
theorem EdB.kept {W W' : World} {v r : Value} {l : List Ed} {B e k n : Nat} {xs : List Value} (h : EdB W v l) (hr : W.ownsRow B e k r n xs) (hte : 66 ≠ e) (hg : W.grownBy W' r.ownBlock) : EdB W' v l := by
  obtain ⟨b, rfl, hb⟩ := h
  exact ⟨b, rfl, (hg.block b (Array.getElem?_eq_some_iff.1 hb).1 (block_not_row hb hte hr)).trans hb⟩
theorem EdB.below {W W' : World} {v : Value} {l : List Ed} (h : EdB W v l) (hb : Below W.heap.size W W') : EdB W' v l := by
  obtain ⟨b, rfl, hh⟩ := h
  exact ⟨b, rfl, (hb.block b (Array.getElem?_eq_some_iff.1 hh).1).trans hh⟩
theorem EdB.new (W : World) (l : List Ed) : EdB (W.alloc (.cells (recV edV l).toArray 66)) (.slice (some ⟨W.heap.size, 0, none⟩) l.length l.length) l := ⟨W.heap.size, rfl, World.alloc_heap_new W _⟩
def StB (W : World) (L' : List SVt) (L : List Stp) : Prop := L'.length = L.length ∧ ∀ (i : Nat) x s, L'[i]? = some x → L[i]? = some s → x.1 = s.1 ∧ x.2.1 = s.2.1 ∧ EdB W x.2.2 s.2.2 ∧ s.2.2.length ≤ 2
theorem StB.nil (W : World) : StB W [] [] := ⟨rfl, fun i x s h => by simp at h⟩
theorem StB.of {W : World} {L' : List SVt} {L : List Stp} (h : StB W L' L) : StOf W L' L :=
  ⟨h.1, fun i x s hx hs => by obtain ⟨a, b, c, d⟩ := h.2 i x s hx hs; exact ⟨a, b, c.eds (by omega)⟩⟩
theorem StB.below {W W' : World} {L' : List SVt} {L : List Stp} (h : StB W L' L) (hb : Below W.heap.size W W') : StB W' L' L :=
  ⟨h.1, fun i x s hx hs => by obtain ⟨a, b, c, d⟩ := h.2 i x s hx hs; exact ⟨a, b, c.below hb, d⟩⟩
theorem StB.push {wd w3 : World} {L' : List SVt} {L : List Stp} {B e n : Nat} {r : Value} {xs : List Value} (h : StB wd L' L) (hrow : wd.ownsRow B e 3 r n xs) (hte : 66 ≠ e) (es : List Ed) (h2 : es.length ≤ 2) (a b : Int) (T : Obj)
    (hg : ((wd.alloc (.cells (recV edV es).toArray 66)).alloc T).grownBy w3 r.ownBlock) : StB w3 (L' ++ [(a, b, .slice (some ⟨wd.heap.size, 0, none⟩) es.length es.length)]) (L ++ [(a, b, es)]) := by
  have hb : Below wd.heap.size wd ((wd.alloc (.cells (recV edV es).toArray 66)).alloc T) := ((Below.refl _ wd).alloc (Nat.le_refl _) _).alloc (by simp) _
  have hr2 := (hrow.alloc (.cells (recV edV es).toArray 66)).alloc T
  refine ⟨by simp [h.1], fun i x s hx hs => ?_⟩
  rcases Nat.lt_or_ge i L'.length with hi | hi
  · rw [List.getElem?_append_left hi] at hx
    rw [List.getElem?_append_left (by rw [← h.1]; exact hi)] at hs
    obtain ⟨p, q, c, d⟩ := h.2 i x s hx hs
    exact ⟨p, q, (c.below hb).kept hr2 hte hg, d⟩
  · rw [List.getElem?_append_right hi] at hx
    rw [List.getElem?_append_right (by rw [← h.1]; exact hi)] at hs
    rw [h.1] at hx
    rcases Nat.eq_zero_or_pos (i - L.length) with h0 | h0
    · rw [h0] at hx hs
      simp only [List.getElem?_cons_zero, Option.some.injEq] at hx hs
      subst hx hs
      exact ⟨rfl, rfl, ((EdB.new wd es).below ((Below.refl _ _).alloc (Nat.le_refl _) T)).kept hr2 hte hg, h2⟩
    · rw [List.getElem?_eq_none (by simp; omega)] at hx
      cases hx
/-- Steps up to a number; of one edge, up to a number. -/
def sTo (level : Int) (l : List Ed) (k : Nat) : List Stp := (l.take k).flatMap (stepOf level l)
def sIn (l : List Ed) (e : Ed) (k : Nat) : List Stp := (l.take k).filterMap fun g => if g.1 = 3 ∧ g.2.1 = e.2.2.1 then some (two2 e g) else none
theorem sTo_all (level : Int) (l : List Ed) : sTo level l l.length = stepsL level l := by unfold sTo stepsL; rw [List.take_length]
theorem sTo_next (level : Int) (l : List Ed) (k : Nat) (hk : k < l.length) : sTo level l (k + 1) = sTo level l k ++ stepOf level l l[k] := by
  unfold sTo
  rw [List.take_succ_eq_append_getElem hk, List.flatMap_append]
  simp
theorem sIn_all (l : List Ed) (e : Ed) : sIn l e l.length = l.filterMap fun g => if g.1 = 3 ∧ g.2.1 = e.2.2.1 then some (two2 e g) else none := by unfold sIn; rw [List.take_length]
theorem sIn_yes (l : List Ed) (e : Ed) (k : Nat) (hk : k < l.length) (h : l[k].1 = 3 ∧ l[k].2.1 = e.2.2.1) : sIn l e (k + 1) = sIn l e k ++ [two2 e l[k]] := by
  unfold sIn
  rw [List.take_succ_eq_append_getElem hk, List.filterMap_append]
  congr 1
  simp [h]
theorem sIn_no (l : List Ed) (e : Ed) (k : Nat) (hk : k < l.length) (h : ¬ (l[k].1 = 3 ∧ l[k].2.1 = e.2.2.1)) : sIn l e (k + 1) = sIn l e k := by
  unfold sIn
  rw [List.take_succ_eq_append_getElem hk, List.filterMap_append]
  rw [show [l[k]].filterMap (fun g => if g.1 = 3 ∧ g.2.1 = e.2.2.1 then some (two2 e g) else none) = [] by
    rw [List.filterMap_cons, if_neg h]; rfl]
  simp
theorem stepOf_1 (l : List Ed) (e : Ed) : stepOf 1 l e = [one1 e] := by unfold stepOf; simp
theorem stepOf_2 (l : List Ed) (e : Ed) (h : e.1 ≠ 3) : stepOf 2 l e = one1 e :: l.filterMap fun g => if g.1 = 3 ∧ g.2.1 = e.2.2.1 then some (two2 e g) else none := by unfold stepOf; simp [h]
theorem stepOf_23 (l : List Ed) (e : Ed) (h : e.1 = 3) : stepOf 2 l e = [] := by unfold stepOf; simp [h]
theorem stepOf_o (level : Int) (l : List Ed) (e : Ed) (h1 : level ≠ 1) (h2 : level ≠ 2) : stepOf level l e = [] := by unfold stepOf; simp [h1, h2]
theorem recS_snoc (L : List SVt) (x : SVt) : recV stV (L ++ [x]) = recV stV L ++ [.int .i64 x.1, .int .i64 x.2.1, x.2.2] := by rw [recV_append]; rfl
/-- The cells of an edge of a row. -/
theorem IsEds.at {w : World} {b off : Nat} {l : List Ed} {k : Nat} (hk : k < l.length) (h : ∀ j u, (edV l[k])[j]? = some u → w.cell? ⟨b, off + k * 5 + j, none⟩ = some u) :
    w.cell? ⟨b, off + k * 5, none⟩ = some (.int .i64 l[k].1) ∧ w.cell? ⟨b, off + k * 5 + 1, none⟩ = some (.int .i64 l[k].2.1) ∧ w.cell? ⟨b, off + k * 5 + 2, none⟩ = some (.int .i64 l[k].2.2.1) ∧ w.cell? ⟨b, off + k * 5 + 3, none⟩ = some (.int .i64 l[k].2.2.2.1) ∧ w.cell? ⟨b, off + k * 5 + 4, none⟩ = some (.int .i64 l[k].2.2.2.2) :=
  ⟨h 0 _ rfl, h 1 _ rfl, h 2 _ rfl, h 3 _ rfl, h 4 _ rfl⟩
theorem IsEds.reads {w : World} {v : Value} {l : List Ed} (hT : IsEds w v l) : ∃ a cap, v = .slice a l.length cap ∧ l.length ≤ cap ∧ cap ≤ 9223372036854775807 ∧ l.length ≤ 140737488351232 ∧
    Hid (0 < l.length → ∃ b off, a = some ⟨b, off, none⟩ ∧ Hid (∀ j (hj : j < l.length), ∀ V, Below w.heap.size w V → V.cell? ⟨b, off + j * 5, none⟩ = some (.int .i64 l[j].1) ∧ V.cell? ⟨b, off + j * 5 + 1, none⟩ = some (.int .i64 l[j].2.1) ∧ V.cell? ⟨b, off + j * 5 + 2, none⟩ = some (.int .i64 l[j].2.2.1) ∧ V.cell? ⟨b, off + j * 5 + 3, none⟩ = some (.int .i64 l[j].2.2.2.1) ∧ V.cell? ⟨b, off + j * 5 + 4, none⟩ = some (.int .i64 l[j].2.2.2.2))) := by
  obtain ⟨a, cap, rfl, h1, h2, h3, HC⟩ := hT.some_at
  refine ⟨a, cap, rfl, h1, h2, h3, ?_⟩
  intro h0
  obtain ⟨b, off, rfl, hlt, _⟩ := HC.out 0 h0
  refine ⟨b, off, rfl, ?_⟩
  intro j hj V hV
  obtain ⟨b', off', hbo, _, hc⟩ := HC.out j hj
  obtain ⟨rfl, rfl⟩ : b = b' ∧ off = off' := by simpa using hbo
  obtain ⟨s0, s1, s2, s3, s4⟩ := IsEds.at hj hc
  exact ⟨(hV.cell (p := ⟨b, off + j * 5, none⟩) hlt).trans s0, (hV.cell (p := ⟨b, off + j * 5 + 1, none⟩) hlt).trans s1, (hV.cell (p := ⟨b, off + j * 5 + 2, none⟩) hlt).trans s2, (hV.cell (p := ⟨b, off + j * 5 + 3, none⟩) hlt).trans s3, (hV.cell (p := ⟨b, off + j * 5 + 4, none⟩) hlt).trans s4⟩
end Go.Proofs.Ytpfpkpaodlmlaaa
namespace Go.Proofs.Ytpfpkpaodlmlaaa
set_option maxRecDepth 100000
open Go.RowKit
set_option linter.unusedVariables false
abbrev Lf := Int × Nat × Nat × Bool
def lifV (x : Lf) : List Value := [.int .i64 x.1, .int .i64 (x.2.1 : Int), .int .i64 (x.2.2.1 : Int), .bool x.2.2.2]
theorem lifV_len (x : Lf) : (lifV x).length = 4 := rfl
theorem lifV_one (x : Lf) : ∀ u ∈ lifV x, u.oneCell' = true := by
  intro u hu
  simp [lifV] at hu
  rcases hu with rfl | rfl | rfl | rfl <;> rfl
abbrev IsLfs (w : World) (v : Value) (L : List Lf) : Prop := IsRec 4 lifV w v L
abbrev lifA (x : Lf) : Value := .agg #[.int .i64 x.1, .int .i64 (x.2.1 : Int), .int .i64 (x.2.2.1 : Int), .bool x.2.2.2]
def findP (h : List Ev) (t : Int) : Lf × Bool := match findL h t with
  | none => ((0, 0, 0, false), false)
  | some x => (x, true)
/-- Numbers in a row. -/
def intV (n : Int) : List Value := [.int .i64 n]
theorem intV_len (n : Int) : (intV n).length = 1 := rfl
abbrev IsInts (w : World) (v : Value) (L : List Int) : Prop := IsRec 1 intV w v L
theorem int_info : (Try.prog.info? 3).map (fun i => (i.zero, i.size, i.bytes)) = some (some (.int .i64 0), 1, 8) := by kernel_rfl
/-- A row of lives, made; a row of numbers, made. -/
def LfRow (t : TypeId) (w : World) (L : List Lf) (e : Ending) (w' : World) : Prop := ∃ v, e = .returned v ∧ Below w.heap.size w w' ∧ w'.ownsRow w.heap.size t 4 v L.length (recV lifV L)
def InRow (w : World) (L : List Int) (e : Ending) (w' : World) : Prop := ∃ v, e = .returned v ∧ Below w.heap.size w w' ∧ w'.ownsRow w.heap.size 3 1 v L.length (recV intV L)
theorem find_has (h : List Ev) (i : Nat) (hi : i < h.length) : ∃ x, findL h (ev h i).2.1 = some x := by
  unfold findL
  cases hf : fstL h (ev h i).2.1 h.length with
  | none => exact absurd rfl ((fstL_none _ _ _).1 hf i hi)
  | some f =>
    simp only
    cases endL h (ev h i).2.1 h.length with
    | none => exact ⟨_, rfl⟩
    | some e => exact ⟨_, rfl⟩
theorem findP_of {h : List Ev} {t : Int} {x : Lf} (hx : findL h t = some x) : findP h t = (x, true) := by unfold findP; rw [hx]
theorem last_upto (h : List Ev) (t : Int) (key : List UInt8) (i : Nat) (hi : i ≤ h.length) : lastL h t key (i : Int) = lastN h t key i := by
  unfold lastL
  rw [Int.toNat_natCast, Nat.min_eq_right hi]
theorem last_end (h : List Ev) (t : Int) (key : List UInt8) (before : Int) (k : Nat) (hk : k ≤ h.length) (hb : k = 0 ∨ (k : Int) ≤ before) (he : k = h.length ∨ before ≤ (k : Int)) : lastL h t key before = lastN h t key k := by
  unfold lastL
  have : min h.length before.toNat = k := by rw [Nat.min_def]; split <;> omega
  rw [this]
end Go.Proofs.Ytpfpkpaodlmlaaa
namespace Go.Proofs.Ytpfpkpaodlmlaaa
set_option maxRecDepth 100000
open Go.RowKit
set_option linter.unusedVariables false
theorem own_empty8 (w : World) (e k : Nat) : (w.alloc (.cells #[] e)).ownsRow w.heap.size e k (.slice (some ⟨w.heap.size, 0, none⟩) 0 0) 0 [] :=
  ⟨by simp, .inr ⟨w.heap.size, 0, #[], rfl, Nat.le_refl _, SBox.new w e #[], Nat.le_refl _, by unfold maxLen; omega, by simp, by simp⟩⟩
theorem rec_src8 {α : Type} {sz : Nat} {enc : α → List Value} (hz : ∀ x, (enc x).length = sz) (hs : 0 < sz) {W : World} {b off : Nat} {L : List α} (h : ∀ i (h : i < L.length) j u, (enc L[i])[j]? = some u → W.cell? ⟨b, off + i * sz + j, none⟩ = some u) : ∀ j u, (recV enc L)[j]? = some u → W.cell? ((⟨b, off, none⟩ : Addr).add j) = some u := by
  intro j u hu
  have hj : j < L.length * sz := by
    have := (List.getElem?_eq_some_iff.1 hu).1
    rwa [recV_length hz] at this
  have hi : j / sz < L.length := (Nat.div_lt_iff_lt_mul hs).2 hj
  have hm : j % sz < sz := Nat.mod_lt _ hs
  have e : j / sz * sz + j % sz = j := by rw [Nat.mul_comm]; exact Nat.div_add_mod j sz
  have g := recV_get hz L (j / sz) hi (j % sz) hm
  rw [e, hu] at g
  have := h (j / sz) hi (j % sz) u g.symm
  rw [Nat.add_assoc, e] at this
  have ea : (⟨b, off, none⟩ : Addr).add j = ⟨b, off + j, none⟩ := by simp [Addr.add]
  rw [ea]
  exact this
/-- Of a slice that is a row of records: its cells, at whatever later world. -/
theorem IsRec.src {α : Type} {sz : Nat} {enc : α → List Value} (hz : ∀ x, (enc x).length = sz) (hs : 0 < sz) {w W : World} {ad : Addr} {n c : Nat} {L : List α} (h : IsRec sz enc w (.slice (some ad) n c) L) (hb : Below w.heap.size w W) : ∀ j u, (recV enc L)[j]? = some u → W.cell? (ad.add j) = some u := by
  by_cases h0 : L = []
  · subst h0; intro j u hu; simp [recV] at hu
  · obtain ⟨a, n', c', hv, h1, _, _, _, h6⟩ := h
    obtain ⟨rfl, rfl, rfl⟩ : a = some ad ∧ n' = n ∧ c' = c := by simpa [eq_comm] using hv
    rcases h6 with h6 | ⟨b, off, hb', hlt, hc⟩
    · exact absurd (List.length_eq_zero_iff.1 (by omega)) h0
    · obtain rfl : ad = ⟨b, off, none⟩ := by simpa using hb'
      refine rec_src8 hz hs (fun i hi j u hu => ?_)
      exact (hb.cell (p := ⟨b, off + i * sz + j, none⟩) hlt).trans (hc i hi j u hu)
theorem own_slice9 {W : World} {B e k n : Nat} {v : Value} {xs : List Value} (h : W.ownsRow B e k v n xs) : ∃ g c, v = .slice g n c ∧ n ≤ c := by
  rcases h.2 with ⟨rfl, rfl⟩ | ⟨g, cap, cur, rfl, _, _, hc, _⟩
  · exact ⟨_, _, rfl, Nat.le_refl _⟩
  · exact ⟨_, _, rfl, hc⟩
end Go.Proofs.Ytpfpkpaodlmlaaa
namespace Go.Proofs.Ytpfpkpaodlmlaaa
set_option maxRecDepth 100000
set_option linter.unusedVariables false
theorem lives_len (h : List Ev) : (livesL h).length ≤ h.length := by
  unfold livesL
  have := List.length_filterMap_le (fun i => if fstL h (ev h i).2.1 i = none then findL h (ev h i).2.1 else none) (List.range h.length)
  rw [List.length_range] at this
  exact this
theorem vers_len (h : List Ev) (key : List UInt8) : (versL h key).length ≤ h.length := by
  unfold versL
  have := List.length_filterMap_le (verOf h key) (List.range h.length)
  rw [List.length_range] at this
  exact this
theorem keysF_len : ∀ (l : List Ev) (acc : List (List UInt8)), (keysF acc l).length ≤ acc.length + l.length
  | [], acc => by rw [keysF]; simp
  | x :: l, acc => by
    rw [keysF]
    have h1 := keysF_len l (if keyedE x.1 then insK x.2.2.1 acc else acc)
    have h2 : (if keyedE x.1 then insK x.2.2.1 acc else acc).length ≤ acc.length + 1 := by
      by_cases hk : keyedE x.1
      · rw [if_pos hk]; exact insK_len _ _
      · rw [if_neg hk]; omega
    simp only [List.length_cons]
    omega
theorem keys_len (h : List Ev) : (keysL h).length ≤ h.length := by
  have := keysF_len h []
  simpa [keysL] using this
end Go.Proofs.Ytpfpkpaodlmlaaa
namespace Go.Proofs.Ytpfpkpaodlmlaaa
set_option maxRecDepth 100000
open Go.RowKit
set_option linter.unusedVariables false
theorem getD_at {α : Type} (l : List α) (d : α) (j : Nat) (h : j < l.length) : l.getD j d = l[j] := by rw [List.getD_eq_getElem?_getD, List.getElem?_eq_getElem h, Option.getD_some]
theorem IsInts.reads {w : World} {v : Value} {L : List Int} (hT : IsInts w v L) : ∃ a cap, v = .slice a L.length cap ∧ L.length ≤ cap ∧ cap ≤ 9223372036854775807 ∧ L.length ≤ 140737488351232 ∧
    Hid (0 < L.length → ∃ b off, a = some ⟨b, off, none⟩ ∧ Hid (∀ j, j < L.length → ∀ V, Below w.heap.size w V → V.cell? ⟨b, off + j, none⟩ = some (.int .i64 (L.getD j 0)))) := by
  obtain ⟨a, cap, rfl, h1, h2, h3, HC⟩ := hT.some_at
  refine ⟨a, cap, rfl, h1, h2, h3, ?_⟩
  intro h0
  obtain ⟨b, off, rfl, hlt, _⟩ := HC.out 0 h0
  refine ⟨b, off, rfl, ?_⟩
  intro j hj V hV
  obtain ⟨b', off', hbo, _, hc⟩ := HC.out j hj
  obtain ⟨rfl, rfl⟩ : b = b' ∧ off = off' := by simpa using hbo
  have := hc 0 (.int .i64 L[j]) rfl
  rw [getD_at L 0 j hj]
  refine (hV.cell (p := ⟨b, off + j, none⟩) hlt).trans ?_
  simpa using this
theorem vers_pack {h : List Ev} (hw : WF h) (key : List UInt8) (j : Nat) (hj : j < (versL h key).length) : ∃ y f e : Nat, ((versL h key).map Int.ofNat).getD j 0 = (y : Int) ∧ y < h.length ∧ (ev h y).1 = 3 ∧ (ev h y).2.2.1 = key ∧ findL h (ev h y).2.1 = some ((ev h y).2.1, f, e, true) ∧ (srcL h key).getD j 0 = e ∧ ∀ i, i < j → (srcL h key).getD i 0 < e := by
  obtain ⟨f, a1, a2, a3, a4⟩ := vers_at hw key j hj
  have hs := src_len h key
  refine ⟨_, f, _, ?_, a1, a2, a3, a4, ?_, ?_⟩
  · rw [getD_at _ _ _ (by rw [List.length_map]; exact hj), List.getElem_map]; rfl
  · rw [getD_at _ _ _ (by omega)]
  · intro i hi
    rw [getD_at _ _ _ (by omega)]
    exact (List.pairwise_iff_getElem.1 (src_sorted h key)) i j (by omega) (by omega) hi
def lastP (h : List Ev) (key : List UInt8) (j : Nat) : Int := if j = 0 then -1 else (((srcL h key).getD (j - 1) 0 : Nat) : Int)
theorem lastP_zero (h : List Ev) (key : List UInt8) : lastP h key 0 = -1 := by unfold lastP; rw [if_pos rfl]
theorem lastP_next (h : List Ev) (key : List UInt8) (j : Nat) : lastP h key (j + 1) = (((srcL h key).getD j 0 : Nat) : Int) := by unfold lastP; rw [if_neg (by omega)]; rfl
theorem lastP_less (h : List Ev) (key : List UInt8) (j e : Nat) (hs : ∀ i, i < j → (srcL h key).getD i 0 < e) : lastP h key j < (e : Int) := by
  unfold lastP
  by_cases h0 : j = 0
  · rw [if_pos h0]; omega
  · rw [if_neg h0]; have := hs (j - 1) (by omega); omega
theorem vers_some {h : List Ev} (hw : WF h) (key : List UInt8) (k : Nat) (hk : k < h.length) (h3 : (ev h k).1 = 3) (hkey : (ev h k).2.2.1 = key) (f e : Nat) (hf : findL h (ev h k).2.1 = some ((ev h k).2.1, f, e, true)) : ∃ j y : Nat, j < (versL h key).length ∧ ((versL h key).map Int.ofNat).getD j 0 = ((y : Nat) : Int) ∧ (ev h y).2.1 = (ev h k).2.1 ∧ k ≤ y := by
  obtain ⟨m, hm, e1, e2⟩ := vers_has hw key k hk h3 hkey f e hf
  obtain ⟨j, hj, rfl⟩ := List.getElem_of_mem hm
  refine ⟨j, _, hj, ?_, e1, e2⟩
  rw [getD_at _ _ _ (by rw [List.length_map]; exact hj), List.getElem_map]
  rfl
/-- Whether one of the first q versions is of that transaction, and no elder. -/
def InB (h : List Ev) (VV : List Int) (x1 : Int) (k q : Nat) (bo : Bool) : Prop := bo = true ↔ ∃ j y : Nat, j < q ∧ VV.getD j 0 = ((y : Nat) : Int) ∧ (ev h y).2.1 = x1 ∧ k ≤ y
end Go.Proofs.Ytpfpkpaodlmlaaa
