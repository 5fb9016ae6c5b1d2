/-
  Edges in rows; committed transactions: of no program but for the types.
  Steps in rows (two numbers and a row of edges an element): of no program but for the types.
  Lives and numbers in rows; what is found, as a value: of no program but for the types.
  Bads in rows; what is told of a place that may be none: of no program but for the type.
  What a loop that looks for a transaction knows: in lists.
  What is told of a read, by the life that is found: of no program but for the types.
  The cells of a row of records, as what is appended; an empty row, made: of no program.
  Bounds of what histories give: in lists.
  Versions, as a statement goes through them: in lists; a row of numbers, read.
  Edges as loops make them: in lists.
  Transactions, as a loop over the living events makes them: in lists.
  Versions, as a loop over the living events makes them: in lists.
  Committed transactions, as a row of lives tells them: in lists.
  Whether an edge holds, as the program asks: in lists.
  Histories without reads, cut: in lists.
  What is wanted of package history, as one word.
  What is wanted of package edges, as one word.
-/
import Derived.Test.YteehpkkkagdckaaProg
import Derived.Test.YteehpkkkagdckaaGA
import Derived.Test.YteehpkkkagdckaaGC
import Derived.Test.YteehpkkkagdckaaGD
import Derived.Test.YteehpkkkagdckaaGB
namespace Go.Proofs.Yteehpkkkagdckaa
set_option maxRecDepth 100000
open Go.RowKit
set_option linter.unusedVariables false
def edV (x : Ed) : List Value := [.int .i64 x.1, .int .i64 x.2.1, .int .i64 x.2.2.1, .int .i64 x.2.2.2.1, .int .i64 x.2.2.2.2]
theorem edV_len (x : Ed) : (edV x).length = 5 := rfl
theorem edV_one (x : Ed) : ∀ u ∈ edV x, u.oneCell' = true := by
  intro u hu
  simp [edV] at hu
  rcases hu with rfl | rfl | rfl | rfl | rfl <;> rfl
abbrev IsEds (w : World) (v : Value) (L : List Ed) : Prop := IsRec 5 edV w v L
abbrev edA (x : Ed) : Value := .agg #[.int .i64 x.1, .int .i64 x.2.1, .int .i64 x.2.2.1, .int .i64 x.2.2.2.1, .int .i64 x.2.2.2.2]
theorem ed_info : (Try.prog.info? 24).map (fun i => (i.zero, i.size, i.bytes)) = some (some (.agg #[.int .i64 0, .int .i64 0, .int .i64 0, .int .i64 0, .int .i64 0]), 5, 40) := by kernel_rfl
theorem size_ed : (Try.prog.info? 24).map (·.size) = some 5 := by kernel_rfl
def EdRow (t : TypeId) (w : World) (L : List Ed) (e : Ending) (w' : World) : Prop := ∃ v, e = .returned v ∧ Below w.heap.size w w' ∧ w'.ownsRow w.heap.size t 5 v L.length (recV edV L)
theorem comm_none (h : List Ev) (t : Int) (he : endL h t h.length = none) : commL h t = none := by unfold commL; rw [he]
theorem comm_yes (h : List Ev) (t : Int) (e : Nat) (he : endL h t h.length = some e) (h4 : (ev h e).1 = 4) : commL h t = some e := by unfold commL; rw [he]; simp only; rw [if_pos h4]
theorem comm_no (h : List Ev) (t : Int) (e : Nat) (he : endL h t h.length = some e) (h4 : (ev h e).1 ≠ 4) : commL h t = none := by unfold commL; rw [he]; simp only; rw [if_neg h4]
end Go.Proofs.Yteehpkkkagdckaa
namespace Go.Proofs.Yteehpkkkagdckaa
set_option maxRecDepth 100000
open Go.RowKit
set_option linter.unusedVariables false
abbrev SVt := Int × Int × Value
def stV (x : SVt) : List Value := [.int .i64 x.1, .int .i64 x.2.1, x.2.2]
theorem stV_len (x : SVt) : (stV x).length = 3 := rfl
theorem st_info : (Try.prog.info? 50).map (fun i => (i.zero, i.size, i.bytes)) = some (some (.agg #[.int .i64 0, .int .i64 0, .slice none 0 0]), 3, 40) := by kernel_rfl
theorem size_st : (Try.prog.info? 50).map (·.size) = some 3 := by kernel_rfl
structure StAt (W : World) (x : SVt) (s : Stp) : Prop where
  from_ : x.1 = s.1
  to_ : x.2.1 = s.2.1
  eds : IsEds W x.2.2 s.2.2
def StOf (W : World) (L' : List SVt) (L : List Stp) : Prop := L'.length = L.length ∧ ∀ (i : Nat) x s, L'[i]? = some x → L[i]? = some s → StAt W x s
def IsSts (W : World) (v : Value) (L : List Stp) : Prop := ∃ L', IsRec 3 stV W v L' ∧ StOf W L' L
def StRow (t : TypeId) (w : World) (L : List Stp) (e : Ending) (w' : World) : Prop := ∃ v L', e = .returned v ∧ Below w.heap.size w w' ∧ w'.ownsRow w.heap.size t 3 v L'.length (recV stV L') ∧ StOf w' L' L
theorem StOf.below {W W' : World} {L' : List SVt} {L : List Stp} (h : StOf W L' L) (hb : Below W.heap.size W W') : StOf W' L' L :=
  ⟨h.1, fun i x s hx hs => ⟨(h.2 i x s hx hs).from_, (h.2 i x s hx hs).to_, (h.2 i x s hx hs).eds.below hb⟩⟩
theorem IsSts.below {W W' : World} {v : Value} {L : List Stp} (h : IsSts W v L) (hb : Below W.heap.size W W') : IsSts W' v L := by
  obtain ⟨L', h1, h2⟩ := h
  exact ⟨L', h1.below hb, h2.below hb⟩
theorem IsSts.own {W : World} {B e : Nat} {v : Value} {L' : List SVt} {L : List Stp} (h : W.ownsRow B e 3 v L'.length (recV stV L')) (hs : StOf W L' L) (hn : L'.length ≤ 140737488351232) : IsSts W v L :=
  ⟨L', IsRec.own stV_len (by omega) h hn, hs⟩
theorem IsSts.len {W : World} {v : Value} {L : List Stp} (h : IsSts W v L) : ∃ a cap, v = .slice a L.length cap ∧ L.length ≤ cap ∧ cap ≤ 9223372036854775807 ∧ L.length ≤ 140737488351232 := by
  obtain ⟨L', h1, h2⟩ := h
  obtain ⟨a, cap, rfl, a1, a2, a3, _⟩ := h1.some_at
  rw [h2.1] at a1 a3 ⊢
  exact ⟨a, cap, rfl, a1, a2, a3⟩
/-- What a row of steps reads as, at whatever later world. -/
theorem IsSts.reads {W : World} {v : Value} {L : List Stp} (h : IsSts W v L) : ∃ a cap, v = .slice a L.length cap ∧ L.length ≤ cap ∧ cap ≤ 9223372036854775807 ∧ L.length ≤ 140737488351232 ∧
    Hid (∀ k (hk : k < L.length), ∃ b off, a = some ⟨b, off, none⟩ ∧ ∃ u, IsEds W u L[k].2.2 ∧ ∀ V, Below W.heap.size W V → V.cell? ⟨b, off + k * 3, none⟩ = some (.int .i64 L[k].1) ∧ V.cell? ⟨b, off + k * 3 + 1, none⟩ = some (.int .i64 L[k].2.1) ∧ V.cell? ⟨b, off + k * 3 + 2, none⟩ = some u) := by
  obtain ⟨L', h1, h2⟩ := h
  obtain ⟨a, cap, rfl, a1, a2, a3, HC⟩ := h1.some_at
  have hl := h2.1
  rw [hl] at a1 a3
  refine ⟨a, cap, by rw [hl], a1, a2, a3, ?_⟩
  intro k hk
  have hk' : k < L'.length := by omega
  obtain ⟨b, off, rfl, hlt, hc⟩ := HC.out k hk'
  have g := h2.2 k _ _ (List.getElem?_eq_getElem hk') (List.getElem?_eq_getElem hk)
  refine ⟨b, off, rfl, L'[k].2.2, g.eds, fun V hV => ?_⟩
  rw [← g.from_, ← g.to_]
  exact ⟨(hV.cell (p := ⟨b, off + k * 3, none⟩) hlt).trans (hc 0 _ rfl), (hV.cell (p := ⟨b, off + k * 3 + 1, none⟩) hlt).trans (hc 1 _ rfl), (hV.cell (p := ⟨b, off + k * 3 + 2, none⟩) hlt).trans (hc 2 _ rfl)⟩
/-- A row of edges in a block of its own. -/
def EdB (W : World) (v : Value) (l : List Ed) : Prop := ∃ b, v = .slice (some ⟨b, 0, none⟩) l.length l.length ∧ W.heap[b]? = some (.cells (recV edV l).toArray 24 (0, 0))
theorem EdB.eds {W : World} {v : Value} {l : List Ed} (h : EdB W v l) (hl : l.length ≤ 1000) : IsEds W v l := by
  obtain ⟨b, rfl, hb⟩ := h
  refine ⟨_, _, _, rfl, rfl, Nat.le_refl _, by omega, by omega, .inr ⟨b, 0, rfl, (Array.getElem?_eq_some_iff.1 hb).1, fun i hi j u hu => ?_⟩⟩
  have hj : j < 5 := by rw [← edV_len l[i]]; exact (List.getElem?_eq_some_iff.1 hu).1
  rw [cell_of_block hb, Nat.zero_add, List.getElem?_toArray, recV_get edV_len l i hi j hj]
  exact hu
theorem EdB.kept {W W' : World} {v r : Value} {l : List Ed} {B e k n : Nat} {xs : List Value} (h : EdB W v l) (hr : W.ownsRow B e k r n xs) (hte : 24 ≠ e) (hg : W.grownBy W' r.ownBlock) : EdB W' v l := by
  obtain ⟨b, rfl, hb⟩ := h
  exact ⟨b, rfl, (hg.block b (Array.getElem?_eq_some_iff.1 hb).1 (block_not_row hb hte hr)).trans hb⟩
theorem EdB.below {W W' : World} {v : Value} {l : List Ed} (h : EdB W v l) (hb : Below W.heap.size W W') : EdB W' v l := by
  obtain ⟨b, rfl, hh⟩ := h
  exact ⟨b, rfl, (hb.block b (Array.getElem?_eq_some_iff.1 hh).1).trans hh⟩
theorem EdB.new (W : World) (l : List Ed) : EdB (W.alloc (.cells (recV edV l).toArray 24)) (.slice (some ⟨W.heap.size, 0, none⟩) l.length l.length) l := ⟨W.heap.size, rfl, World.alloc_heap_new W _⟩
def StB (W : World) (L' : List SVt) (L : List Stp) : Prop := L'.length = L.length ∧ ∀ (i : Nat) x s, L'[i]? = some x → L[i]? = some s → x.1 = s.1 ∧ x.2.1 = s.2.1 ∧ EdB W x.2.2 s.2.2 ∧ s.2.2.length ≤ 2
theorem StB.nil (W : World) : StB W [] [] := ⟨rfl, fun i x s h => by simp at h⟩
theorem StB.of {W : World} {L' : List SVt} {L : List Stp} (h : StB W L' L) : StOf W L' L :=
  ⟨h.1, fun i x s hx hs => by obtain ⟨a, b, c, d⟩ := h.2 i x s hx hs; exact ⟨a, b, c.eds (by omega)⟩⟩
theorem StB.below {W W' : World} {L' : List SVt} {L : List Stp} (h : StB W L' L) (hb : Below W.heap.size W W') : StB W' L' L :=
  ⟨h.1, fun i x s hx hs => by obtain ⟨a, b, c, d⟩ := h.2 i x s hx hs; exact ⟨a, b, c.below hb, d⟩⟩
theorem StB.push {wd w3 : World} {L' : List SVt} {L : List Stp} {B e n : Nat} {r : Value} {xs : List Value} (h : StB wd L' L) (hrow : wd.ownsRow B e 3 r n xs) (hte : 24 ≠ e) (es : List Ed) (h2 : es.length ≤ 2) (a b : Int) (T : Obj)
    (hg : ((wd.alloc (.cells (recV edV es).toArray 24)).alloc T).grownBy w3 r.ownBlock) : StB w3 (L' ++ [(a, b, .slice (some ⟨wd.heap.size, 0, none⟩) es.length es.length)]) (L ++ [(a, b, es)]) := by
  have hb : Below wd.heap.size wd ((wd.alloc (.cells (recV edV es).toArray 24)).alloc T) := ((Below.refl _ wd).alloc (Nat.le_refl _) _).alloc (by simp) _
  have hr2 := (hrow.alloc (.cells (recV edV es).toArray 24)).alloc T
  refine ⟨by simp [h.1], fun i x s hx hs => ?_⟩
  rcases Nat.lt_or_ge i L'.length with hi | hi
  · rw [List.getElem?_append_left hi] at hx
    rw [List.getElem?_append_left (by rw [← h.1]; exact hi)] at hs
    obtain ⟨p, q, c, d⟩ := h.2 i x s hx hs
    exact ⟨p, q, (c.below hb).kept hr2 hte hg, d⟩
  · rw [List.getElem?_append_right hi] at hx
    rw [List.getElem?_append_right (by rw [← h.1]; exact hi)] at hs
    rw [h.1] at hx
    rcases Nat.eq_zero_or_pos (i - L.length) with h0 | h0
    · rw [h0] at hx hs
      simp only [List.getElem?_cons_zero, Option.some.injEq] at hx hs
      subst hx hs
      exact ⟨rfl, rfl, ((EdB.new wd es).below ((Below.refl _ _).alloc (Nat.le_refl _) T)).kept hr2 hte hg, h2⟩
    · rw [List.getElem?_eq_none (by simp; omega)] at hx
      cases hx
/-- Steps up to a number; of one edge, up to a number. -/
def sTo (level : Int) (l : List Ed) (k : Nat) : List Stp := (l.take k).flatMap (stepOf level l)
def sIn (l : List Ed) (e : Ed) (k : Nat) : List Stp := (l.take k).filterMap fun g => if g.1 = 3 ∧ g.2.1 = e.2.2.1 then some (two2 e g) else none
theorem sTo_all (level : Int) (l : List Ed) : sTo level l l.length = stepsL level l := by unfold sTo stepsL; rw [List.take_length]
theorem sTo_next (level : Int) (l : List Ed) (k : Nat) (hk : k < l.length) : sTo level l (k + 1) = sTo level l k ++ stepOf level l l[k] := by
  unfold sTo
  rw [List.take_succ_eq_append_getElem hk, List.flatMap_append]
  simp
theorem sIn_all (l : List Ed) (e : Ed) : sIn l e l.length = l.filterMap fun g => if g.1 = 3 ∧ g.2.1 = e.2.2.1 then some (two2 e g) else none := by unfold sIn; rw [List.take_length]
theorem sIn_yes (l : List Ed) (e : Ed) (k : Nat) (hk : k < l.length) (h : l[k].1 = 3 ∧ l[k].2.1 = e.2.2.1) : sIn l e (k + 1) = sIn l e k ++ [two2 e l[k]] := by
  unfold sIn
  rw [List.take_succ_eq_append_getElem hk, List.filterMap_append]
  congr 1
  simp [h]
theorem sIn_no (l : List Ed) (e : Ed) (k : Nat) (hk : k < l.length) (h : ¬ (l[k].1 = 3 ∧ l[k].2.1 = e.2.2.1)) : sIn l e (k + 1) = sIn l e k := by
  unfold sIn
  rw [List.take_succ_eq_append_getElem hk, List.filterMap_append]
  rw [show [l[k]].filterMap (fun g => if g.1 = 3 ∧ g.2.1 = e.2.2.1 then some (two2 e g) else none) = [] by
    rw [List.filterMap_cons, if_neg h]; rfl]
  simp
theorem stepOf_1 (l : List Ed) (e : Ed) : stepOf 1 l e = [one1 e] := by unfold stepOf; simp
theorem stepOf_2 (l : List Ed) (e : Ed) (h : e.1 ≠ 3) : stepOf 2 l e = one1 e :: l.filterMap fun g => if g.1 = 3 ∧ g.2.1 = e.2.2.1 then some (two2 e g) else none := by unfold stepOf; simp [h]
theorem stepOf_23 (l : List Ed) (e : Ed) (h : e.1 = 3) : stepOf 2 l e = [] := by unfold stepOf; simp [h]
theorem stepOf_o (level : Int) (l : List Ed) (e : Ed) (h1 : level ≠ 1) (h2 : level ≠ 2) : stepOf level l e = [] := by unfold stepOf; simp [h1, h2]
theorem recS_snoc (L : List SVt) (x : SVt) : recV stV (L ++ [x]) = recV stV L ++ [.int .i64 x.1, .int .i64 x.2.1, x.2.2] := by rw [recV_append]; rfl
/-- The cells of an edge of a row. -/
theorem IsEds.at {w : World} {b off : Nat} {l : List Ed} {k : Nat} (hk : k < l.length) (h : ∀ j u, (edV l[k])[j]? = some u → w.cell? ⟨b, off + k * 5 + j, none⟩ = some u) :
    w.cell? ⟨b, off + k * 5, none⟩ = some (.int .i64 l[k].1) ∧ w.cell? ⟨b, off + k * 5 + 1, none⟩ = some (.int .i64 l[k].2.1) ∧ w.cell? ⟨b, off + k * 5 + 2, none⟩ = some (.int .i64 l[k].2.2.1) ∧ w.cell? ⟨b, off + k * 5 + 3, none⟩ = some (.int .i64 l[k].2.2.2.1) ∧ w.cell? ⟨b, off + k * 5 + 4, none⟩ = some (.int .i64 l[k].2.2.2.2) :=
  ⟨h 0 _ rfl, h 1 _ rfl, h 2 _ rfl, h 3 _ rfl, h 4 _ rfl⟩
theorem IsEds.reads {w : World} {v : Value} {l : List Ed} (hT : IsEds w v l) : ∃ a cap, v = .slice a l.length cap ∧ l.length ≤ cap ∧ cap ≤ 9223372036854775807 ∧ l.length ≤ 140737488351232 ∧
    Hid (0 < l.length → ∃ b off, a = some ⟨b, off, none⟩ ∧ Hid (∀ j (hj : j < l.length), ∀ V, Below w.heap.size w V → V.cell? ⟨b, off + j * 5, none⟩ = some (.int .i64 l[j].1) ∧ V.cell? ⟨b, off + j * 5 + 1, none⟩ = some (.int .i64 l[j].2.1) ∧ V.cell? ⟨b, off + j * 5 + 2, none⟩ = some (.int .i64 l[j].2.2.1) ∧ V.cell? ⟨b, off + j * 5 + 3, none⟩ = some (.int .i64 l[j].2.2.2.1) ∧ V.cell? ⟨b, off + j * 5 + 4, none⟩ = some (.int .i64 l[j].2.2.2.2))) := by
  obtain ⟨a, cap, rfl, h1, h2, h3, HC⟩ := hT.some_at
  refine ⟨a, cap, rfl, h1, h2, h3, ?_⟩
  intro h0
  obtain ⟨b, off, rfl, hlt, _⟩ := HC.out 0 h0
  refine ⟨b, off, rfl, ?_⟩
  intro j hj V hV
  obtain ⟨b', off', hbo, _, hc⟩ := HC.out j hj
  obtain ⟨rfl, rfl⟩ : b = b' ∧ off = off' := by simpa using hbo
  obtain ⟨s0, s1, s2, s3, s4⟩ := IsEds.at hj hc
  exact ⟨(hV.cell (p := ⟨b, off + j * 5, none⟩) hlt).trans s0, (hV.cell (p := ⟨b, off + j * 5 + 1, none⟩) hlt).trans s1, (hV.cell (p := ⟨b, off + j * 5 + 2, none⟩) hlt).trans s2, (hV.cell (p := ⟨b, off + j * 5 + 3, none⟩) hlt).trans s3, (hV.cell (p := ⟨b, off + j * 5 + 4, none⟩) hlt).trans s4⟩
end Go.Proofs.Yteehpkkkagdckaa
namespace Go.Proofs.Yteehpkkkagdckaa
set_option maxRecDepth 100000
open Go.RowKit
set_option linter.unusedVariables false
abbrev Lf := Int × Nat × Nat × Bool
def lifV (x : Lf) : List Value := [.int .i64 x.1, .int .i64 (x.2.1 : Int), .int .i64 (x.2.2.1 : Int), .bool x.2.2.2]
theorem lifV_len (x : Lf) : (lifV x).length = 4 := rfl
theorem lifV_one (x : Lf) : ∀ u ∈ lifV x, u.oneCell' = true := by
  intro u hu
  simp [lifV] at hu
  rcases hu with rfl | rfl | rfl | rfl <;> rfl
abbrev IsLfs (w : World) (v : Value) (L : List Lf) : Prop := IsRec 4 lifV w v L
abbrev lifA (x : Lf) : Value := .agg #[.int .i64 x.1, .int .i64 (x.2.1 : Int), .int .i64 (x.2.2.1 : Int), .bool x.2.2.2]
def findP (h : List Ev) (t : Int) : Lf × Bool := match findL h t with
  | none => ((0, 0, 0, false), false)
  | some x => (x, true)
theorem lif_info : (Try.prog.info? 44).map (fun i => (i.zero, i.size, i.bytes)) = some (some (.agg #[.int .i64 0, .int .i64 0, .int .i64 0, .bool false]), 4, 32) := by kernel_rfl
theorem size_lif : (Try.prog.info? 44).map (·.size) = some 4 := by kernel_rfl
/-- Numbers in a row. -/
def intV (n : Int) : List Value := [.int .i64 n]
theorem intV_len (n : Int) : (intV n).length = 1 := rfl
abbrev IsInts (w : World) (v : Value) (L : List Int) : Prop := IsRec 1 intV w v L
theorem int_info : (Try.prog.info? 3).map (fun i => (i.zero, i.size, i.bytes)) = some (some (.int .i64 0), 1, 8) := by kernel_rfl
/-- A row of lives, made; a row of numbers, made. -/
def LfRow (t : TypeId) (w : World) (L : List Lf) (e : Ending) (w' : World) : Prop := ∃ v, e = .returned v ∧ Below w.heap.size w w' ∧ w'.ownsRow w.heap.size t 4 v L.length (recV lifV L)
def InRow (w : World) (L : List Int) (e : Ending) (w' : World) : Prop := ∃ v, e = .returned v ∧ Below w.heap.size w w' ∧ w'.ownsRow w.heap.size 3 1 v L.length (recV intV L)
theorem find_has (h : List Ev) (i : Nat) (hi : i < h.length) : ∃ x, findL h (ev h i).2.1 = some x := by
  unfold findL
  cases hf : fstL h (ev h i).2.1 h.length with
  | none => exact absurd rfl ((fstL_none _ _ _).1 hf i hi)
  | some f =>
    simp only
    cases endL h (ev h i).2.1 h.length with
    | none => exact ⟨_, rfl⟩
    | some e => exact ⟨_, rfl⟩
theorem findP_of {h : List Ev} {t : Int} {x : Lf} (hx : findL h t = some x) : findP h t = (x, true) := by unfold findP; rw [hx]
theorem last_upto (h : List Ev) (t : Int) (key : List UInt8) (i : Nat) (hi : i ≤ h.length) : lastL h t key (i : Int) = lastN h t key i := by
  unfold lastL
  rw [Int.toNat_natCast, Nat.min_eq_right hi]
theorem last_end (h : List Ev) (t : Int) (key : List UInt8) (before : Int) (k : Nat) (hk : k ≤ h.length) (hb : k = 0 ∨ (k : Int) ≤ before) (he : k = h.length ∨ before ≤ (k : Int)) : lastL h t key before = lastN h t key k := by
  unfold lastL
  have : min h.length before.toNat = k := by rw [Nat.min_def]; split <;> omega
  rw [this]
end Go.Proofs.Yteehpkkkagdckaa
namespace Go.Proofs.Yteehpkkkagdckaa
set_option maxRecDepth 100000
open Go.RowKit
set_option linter.unusedVariables false
abbrev Bd := Int × Int × Int
def badV (x : Bd) : List Value := [.int .i64 x.1, .int .i64 x.2.1, .int .i64 x.2.2]
theorem badV_len (x : Bd) : (badV x).length = 3 := rfl
theorem badV_one (x : Bd) : ∀ u ∈ badV x, u.oneCell' = true := by
  intro u hu
  simp [badV] at hu
  rcases hu with rfl | rfl | rfl <;> rfl
abbrev IsBads (w : World) (v : Value) (L : List Bd) : Prop := IsRec 3 badV w v L
abbrev badA (x : Bd) : Value := .agg #[.int .i64 x.1, .int .i64 x.2.1, .int .i64 x.2.2]
theorem bad_info : (Try.prog.info? 69).map (fun i => (i.zero, i.size, i.bytes)) = some (some (.agg #[.int .i64 0, .int .i64 0, .int .i64 0]), 3, 24) := by kernel_rfl
theorem size_bad : (Try.prog.info? 69).map (·.size) = some 3 := by kernel_rfl
def BdRow (t : TypeId) (w : World) (L : List Bd) (e : Ending) (w' : World) : Prop := ∃ v, e = .returned v ∧ Below w.heap.size w w' ∧ w'.ownsRow w.heap.size t 3 v L.length (recV badV L)
/-- Of whatever number: does it count, what is wrong, is it of what another one wrote. -/
def countI (h : List Ev) (i : Int) : Bool := decide (0 ≤ i) && countsB h i.toNat
def atI (h : List Ev) (i : Int) : Bd := if 0 ≤ i then atL h i.toNat else (0, 0, 0)
def outerI (h : List Ev) (i : Int) : Bool := decide (0 ≤ i) && outerB h i.toNat
theorem count_out (h : List Ev) (i : Nat) (hi : ¬ i < h.length) : countsB h i = false := by unfold countsB; rw [decide_eq_false hi]; rfl
theorem count_kind (h : List Ev) (i : Nat) (hk : (ev h i).1 ≠ 2) : countsB h i = false := by unfold countsB; rw [decide_eq_false hk]; simp
theorem count_open (h : List Ev) (i : Nat) (he : endL h (ev h i).2.1 h.length = none) : countsB h i = false := by
  unfold countsB commL
  rw [he]
  simp
theorem count_end (h : List Ev) (i e : Nat) (hi : i < h.length) (hk : (ev h i).1 = 2) (he : endL h (ev h i).2.1 h.length = some e) : countsB h i = (decide (i < e) && decide ((ev h e).1 = 4)) := by
  unfold countsB commL
  rw [he, decide_eq_true hi, decide_eq_true hk]
  simp only
  by_cases h4 : (ev h e).1 = 4
  · rw [if_pos h4, decide_eq_true h4]; simp
  · rw [if_neg h4, decide_eq_false h4]; simp
/-- A struct alone as a result. -/
theorem results_row1 {P : Program} {fn : Func} {p : Tmp} {ty : TypeId} (h : fn.results = #[.cell p ty]) (tmps : Array Value) (w : World) (g : Nat) (t : TypeId) (cs : Array Value) (fr : Nat × Nat) (d : TypeDesc)
    (hp : tmps.getD p undef = .pointer (some ⟨g, 0, none⟩)) (hg : w.heap[g]? = some (.cells cs t fr))
    (hu : P.underlying ty = some d) (hd : (match d with | .struct _ | .array _ _ => true | _ => false) = true) (hi : (P.info? ty).map (·.size) = some cs.size) :
    (results fn tmps).run P w = .ok (.agg cs) w := by
  have hp' : tmps[p]?.getD undef = .pointer (some ⟨g, 0, none⟩) := by simpa using hp
  simp [results, h, hp', asAddr, run_loadVar_row w g t ty cs fr d hg hu hd hi]
/-- All cells of a struct of three stored. -/
theorem SBox.put3 {w : World} {g : Nat} {t : TypeId} {p q r : Value} (h : SBox w g t #[p, q, r]) (a b c : Value) : SBox (((w.setCell ⟨g, 0, none⟩ a).setCell ⟨g, 1, none⟩ b).setCell ⟨g, 2, none⟩ c) g t #[a, b, c] := ((h.set 0 a).set 1 b).set 2 c
theorem bel_put3 {B : Nat} {a w : World} (h : Below B a w) {g : Nat} (hg : B ≤ g) (p q r : Value) : Below B a (((w.setCell ⟨g, 0, none⟩ p).setCell ⟨g, 1, none⟩ q).setCell ⟨g, 2, none⟩ r) :=
  ((h.setCell (p := ⟨g, 0, none⟩) hg p).setCell (p := ⟨g, 1, none⟩) hg q).setCell (p := ⟨g, 2, none⟩) hg r
end Go.Proofs.Yteehpkkkagdckaa
namespace Go.Proofs.Yteehpkkkagdckaa
set_option maxRecDepth 100000
set_option linter.unusedVariables false
def FdI (h : List Ev) (t : Int) (k : Nat) (L : Lf) (th : Bool) : Prop :=
  endL h t k = none ∧ ((fstL h t k = none ∧ th = false ∧ L = (0, 0, 0, false)) ∨ ∃ f, fstL h t k = some f ∧ th = true ∧ L = (t, f, h.length, false))
theorem fd_zero (h : List Ev) (t : Int) : FdI h t 0 (0, 0, 0, false) false := ⟨rfl, Or.inl ⟨rfl, rfl, rfl⟩⟩
theorem endL_skip (h : List Ev) (t : Int) (k : Nat) (he : endL h t k = none) (hn : ¬ endB (ev h k) t) : endL h t (k + 1) = none := by
  rw [endL_none] at he ⊢
  intro j hj
  rcases Nat.lt_or_ge j k with h' | h'
  · exact he j h'
  · obtain rfl : j = k := by omega
    exact hn
theorem fstL_old (h : List Ev) (t : Int) (k f : Nat) (he : fstL h t k = some f) : fstL h t (k + 1) = some f := by
  rw [fstL_some] at he ⊢
  exact ⟨by omega, he.2⟩
theorem fstL_new (h : List Ev) (t : Int) (k : Nat) (he : fstL h t k = none) (hx : (ev h k).2.1 = t) : fstL h t (k + 1) = some k := by
  rw [fstL_none] at he
  rw [fstL_some]
  exact ⟨by omega, hx, he⟩
theorem fstL_skip (h : List Ev) (t : Int) (k : Nat) (he : fstL h t k = none) (hx : (ev h k).2.1 ≠ t) : fstL h t (k + 1) = none := by
  rw [fstL_none] at he ⊢
  intro j hj
  rcases Nat.lt_or_ge j k with h' | h'
  · exact he j h'
  · obtain rfl : j = k := by omega
    exact hx
theorem fstL_mono (h : List Ev) (t : Int) (k n f : Nat) (hk : k ≤ n) (he : fstL h t k = some f) : fstL h t n = some f := by
  rw [fstL_some] at he ⊢
  exact ⟨by omega, he.2⟩
theorem fd_skip {h : List Ev} {t : Int} {k : Nat} {L : Lf} {th : Bool} (hf : FdI h t k L th) (hx : (ev h k).2.1 ≠ t) : FdI h t (k + 1) L th := by
  obtain ⟨h1, h2⟩ := hf
  refine ⟨endL_skip h t k h1 (fun hh => hx hh.1), ?_⟩
  rcases h2 with ⟨a, b, c⟩ | ⟨f, a, b, c⟩
  · exact Or.inl ⟨fstL_skip h t k a hx, b, c⟩
  · exact Or.inr ⟨f, fstL_old h t k f a, b, c⟩
theorem fd_new {h : List Ev} {t : Int} {k : Nat} {L : Lf} (hf : FdI h t k L false) (hx : (ev h k).2.1 = t) (hn : ¬ ((ev h k).1 = 4 ∨ (ev h k).1 = 5)) : FdI h t (k + 1) (t, k, h.length, false) true := by
  obtain ⟨h1, h2⟩ := hf
  refine ⟨endL_skip h t k h1 (fun hh => hn hh.2), ?_⟩
  rcases h2 with ⟨a, b, c⟩ | ⟨f, a, b, c⟩
  · exact Or.inr ⟨k, fstL_new h t k a hx, rfl, rfl⟩
  · cases b
theorem fd_old {h : List Ev} {t : Int} {k : Nat} {L : Lf} (hf : FdI h t k L true) (hn : ¬ ((ev h k).1 = 4 ∨ (ev h k).1 = 5)) : FdI h t (k + 1) L true := by
  obtain ⟨h1, h2⟩ := hf
  refine ⟨endL_skip h t k h1 (fun hh => hn hh.2), ?_⟩
  rcases h2 with ⟨a, b, c⟩ | ⟨f, a, b, c⟩
  · cases b
  · exact Or.inr ⟨f, fstL_old h t k f a, rfl, c⟩
theorem fd_end {h : List Ev} {t : Int} {k : Nat} (he : endL h t k = none) (hk : k < h.length) (hx : (ev h k).2.1 = t) (hn : (ev h k).1 = 4 ∨ (ev h k).1 = 5) (f : Nat) (hf : fstL h t (k + 1) = some f) : findL h t = some (t, f, k, decide ((ev h k).1 = 4)) := by
  unfold findL
  rw [fstL_mono h t (k + 1) h.length f (by omega) hf, (endL_some h t h.length k).2 ⟨hk, ⟨hx, hn⟩, (endL_none h t k).1 he⟩]
theorem fd_end_new {h : List Ev} {t : Int} {k : Nat} {L : Lf} (hf : FdI h t k L false) (hk : k < h.length) (hx : (ev h k).2.1 = t) (hn : (ev h k).1 = 4 ∨ (ev h k).1 = 5) : findP h t = ((t, k, k, decide ((ev h k).1 = 4)), true) := by
  obtain ⟨h1, h2⟩ := hf
  rcases h2 with ⟨a, b, c⟩ | ⟨f, a, b, c⟩
  · exact findP_of (fd_end h1 hk hx hn k (fstL_new h t k a hx))
  · cases b
theorem fd_end_old {h : List Ev} {t : Int} {k : Nat} {L : Lf} (hf : FdI h t k L true) (hk : k < h.length) (hx : (ev h k).2.1 = t) (hn : (ev h k).1 = 4 ∨ (ev h k).1 = 5) : findP h t = ((L.1, L.2.1, k, decide ((ev h k).1 = 4)), true) := by
  obtain ⟨h1, h2⟩ := hf
  rcases h2 with ⟨a, b, c⟩ | ⟨f, a, b, c⟩
  · cases b
  · rw [c]
    exact findP_of (fd_end h1 hk hx hn f (fstL_old h t k f a))
theorem fd_done {h : List Ev} {t : Int} {L : Lf} {th : Bool} (hf : FdI h t h.length L th) : findP h t = (L, th) := by
  obtain ⟨h1, h2⟩ := hf
  unfold findP findL
  rcases h2 with ⟨a, b, c⟩ | ⟨f, a, b, c⟩
  · rw [a, b, c]
  · rw [a, h1, b, c]
end Go.Proofs.Yteehpkkkagdckaa
namespace Go.Proofs.Yteehpkkkagdckaa
set_option maxRecDepth 100000
open Go.RowKit
set_option linter.unusedVariables false
theorem life_comm (h : List Ev) (t : Int) : (∃ e f, commL h t = some e ∧ findP h t = ((t, f, e, true), true)) ∨ (commL h t = none ∧ (findP h t).1.2.2.2 = false) := by
  cases hc : commL h t with
  | some e =>
    obtain ⟨f, hf⟩ := comm_find h t e hc
    exact .inl ⟨e, f, rfl, findP_of hf⟩
  | none =>
    refine .inr ⟨rfl, ?_⟩
    unfold findP
    cases hf : findL h t with
    | none => rfl
    | some x =>
      obtain ⟨t', f, e, b⟩ := x
      cases b with
      | false => rfl
      | true =>
        have := (find_comm h t 0 f e t' hf).2
        rw [hc] at this
        cases this
theorem cnt_find (h : List Ev) (i : Nat) (hi : i < h.length) (hk : (ev h i).1 = 2) : countsB h i = ((findP h (ev h i).2.1).1.2.2.2 && decide (i < (findP h (ev h i).2.1).1.2.2.1)) := by
  unfold countsB
  rw [decide_eq_true hi, decide_eq_true hk]
  rcases life_comm h (ev h i).2.1 with ⟨e, f, h1, h2⟩ | ⟨h1, h2⟩
  · rw [h1, h2]; simp
  · rw [h1, h2]; simp
theorem find_txn (h : List Ev) (i : Nat) (hi : i < h.length) : (findP h (ev h i).2.1).1.1 = (ev h i).2.1 := by
  obtain ⟨x, hx⟩ := find_has h i hi
  rw [findP_of hx]
  unfold findL at hx
  cases h1 : fstL h (ev h i).2.1 h.length with
  | none => rw [h1] at hx; cases hx
  | some f' =>
    rw [h1] at hx
    simp only at hx
    cases h2 : endL h (ev h i).2.1 h.length with
    | none => rw [h2] at hx; simp only [Option.some.injEq] at hx; rw [← hx]
    | some e' => rw [h2] at hx; simp only [Option.some.injEq] at hx; rw [← hx]
/-- What is wrong with a read ahead of which its transaction wrote nothing of its key. -/
def ofwL (h : List Ev) (i : Nat) : Bd :=
    if (ev h i).2.2.2 = [] then (0, 0, 0) else
    match writerL h (ev h i).2.2.1 (ev h i).2.2.2 with
    | none => (0, 0, 0)
    | some w =>
      if (ev h w).2.1 = (ev h i).2.1 then (4, (i : Int), (w : Int)) else
      match commL h (ev h w).2.1 with
      | none => (1, (i : Int), (w : Int))
      | some e => if lastN h (ev h w).2.1 (ev h i).2.2.1 (min h.length e) = some w then (0, 0, 0) else (2, (i : Int), oI (lastN h (ev h w).2.1 (ev h i).2.2.1 (min h.length e)))
theorem at_ofw (h : List Ev) (i : Nat) (hc : countsB h i = true) (hl : lastN h (ev h i).2.1 (ev h i).2.2.1 i = none) : atL h i = ofwL h i := by
  unfold atL ofwL
  rw [if_neg (by rw [hc]; simp), hl]
  (try rfl)
theorem last_min (h : List Ev) (t : Int) (key : List UInt8) (e : Nat) : lastL h t key (e : Int) = lastN h t key (min h.length e) := by
  unfold lastL
  rw [Int.toNat_natCast]
theorem oI_inj {a : Option Nat} {u : Nat} : oI a = (u : Int) ↔ a = some u := by
  cases a with
  | none => simp only [oI]; constructor; intro h; omega; intro h; cases h
  | some k => simp only [oI, Option.some.injEq]; omega
end Go.Proofs.Yteehpkkkagdckaa
namespace Go.Proofs.Yteehpkkkagdckaa
set_option maxRecDepth 100000
open Go.RowKit
set_option linter.unusedVariables false
theorem own_empty8 (w : World) (e k : Nat) : (w.alloc (.cells #[] e)).ownsRow w.heap.size e k (.slice (some ⟨w.heap.size, 0, none⟩) 0 0) 0 [] :=
  ⟨by simp, .inr ⟨w.heap.size, 0, #[], rfl, Nat.le_refl _, SBox.new w e #[], Nat.le_refl _, by unfold maxLen; omega, by simp, by simp⟩⟩
theorem rec_src8 {α : Type} {sz : Nat} {enc : α → List Value} (hz : ∀ x, (enc x).length = sz) (hs : 0 < sz) {W : World} {b off : Nat} {L : List α} (h : ∀ i (h : i < L.length) j u, (enc L[i])[j]? = some u → W.cell? ⟨b, off + i * sz + j, none⟩ = some u) : ∀ j u, (recV enc L)[j]? = some u → W.cell? ((⟨b, off, none⟩ : Addr).add j) = some u := by
  intro j u hu
  have hj : j < L.length * sz := by
    have := (List.getElem?_eq_some_iff.1 hu).1
    rwa [recV_length hz] at this
  have hi : j / sz < L.length := (Nat.div_lt_iff_lt_mul hs).2 hj
  have hm : j % sz < sz := Nat.mod_lt _ hs
  have e : j / sz * sz + j % sz = j := by rw [Nat.mul_comm]; exact Nat.div_add_mod j sz
  have g := recV_get hz L (j / sz) hi (j % sz) hm
  rw [e, hu] at g
  have := h (j / sz) hi (j % sz) u g.symm
  rw [Nat.add_assoc, e] at this
  have ea : (⟨b, off, none⟩ : Addr).add j = ⟨b, off + j, none⟩ := by simp [Addr.add]
  rw [ea]
  exact this
/-- Of a slice that is a row of records: its cells, at whatever later world. -/
theorem IsRec.src {α : Type} {sz : Nat} {enc : α → List Value} (hz : ∀ x, (enc x).length = sz) (hs : 0 < sz) {w W : World} {ad : Addr} {n c : Nat} {L : List α} (h : IsRec sz enc w (.slice (some ad) n c) L) (hb : Below w.heap.size w W) : ∀ j u, (recV enc L)[j]? = some u → W.cell? (ad.add j) = some u := by
  by_cases h0 : L = []
  · subst h0; intro j u hu; simp [recV] at hu
  · obtain ⟨a, n', c', hv, h1, _, _, _, h6⟩ := h
    obtain ⟨rfl, rfl, rfl⟩ : a = some ad ∧ n' = n ∧ c' = c := by simpa [eq_comm] using hv
    rcases h6 with h6 | ⟨b, off, hb', hlt, hc⟩
    · exact absurd (List.length_eq_zero_iff.1 (by omega)) h0
    · obtain rfl : ad = ⟨b, off, none⟩ := by simpa using hb'
      refine rec_src8 hz hs (fun i hi j u hu => ?_)
      exact (hb.cell (p := ⟨b, off + i * sz + j, none⟩) hlt).trans (hc i hi j u hu)
theorem own_slice9 {W : World} {B e k n : Nat} {v : Value} {xs : List Value} (h : W.ownsRow B e k v n xs) : ∃ g c, v = .slice g n c ∧ n ≤ c := by
  rcases h.2 with ⟨rfl, rfl⟩ | ⟨g, cap, cur, rfl, _, _, hc, _⟩
  · exact ⟨_, _, rfl, Nat.le_refl _⟩
  · exact ⟨_, _, rfl, hc⟩
end Go.Proofs.Yteehpkkkagdckaa
namespace Go.Proofs.Yteehpkkkagdckaa
set_option maxRecDepth 100000
set_option linter.unusedVariables false
theorem lives_len (h : List Ev) : (livesL h).length ≤ h.length := by
  unfold livesL
  have := List.length_filterMap_le (fun i => if fstL h (ev h i).2.1 i = none then findL h (ev h i).2.1 else none) (List.range h.length)
  rw [List.length_range] at this
  exact this
theorem vers_len (h : List Ev) (key : List UInt8) : (versL h key).length ≤ h.length := by
  unfold versL
  have := List.length_filterMap_le (verOf h key) (List.range h.length)
  rw [List.length_range] at this
  exact this
theorem keysF_len : ∀ (l : List Ev) (acc : List (List UInt8)), (keysF acc l).length ≤ acc.length + l.length
  | [], acc => by rw [keysF]; simp
  | x :: l, acc => by
    rw [keysF]
    have h1 := keysF_len l (if keyedE x.1 then insK x.2.2.1 acc else acc)
    have h2 : (if keyedE x.1 then insK x.2.2.1 acc else acc).length ≤ acc.length + 1 := by
      by_cases hk : keyedE x.1
      · rw [if_pos hk]; exact insK_len _ _
      · rw [if_neg hk]; omega
    simp only [List.length_cons]
    omega
theorem keys_len (h : List Ev) : (keysL h).length ≤ h.length := by
  have := keysF_len h []
  simpa [keysL] using this
end Go.Proofs.Yteehpkkkagdckaa
namespace Go.Proofs.Yteehpkkkagdckaa
set_option maxRecDepth 100000
open Go.RowKit
set_option linter.unusedVariables false
theorem getD_at {α : Type} (l : List α) (d : α) (j : Nat) (h : j < l.length) : l.getD j d = l[j] := by rw [List.getD_eq_getElem?_getD, List.getElem?_eq_getElem h, Option.getD_some]
theorem IsInts.reads {w : World} {v : Value} {L : List Int} (hT : IsInts w v L) : ∃ a cap, v = .slice a L.length cap ∧ L.length ≤ cap ∧ cap ≤ 9223372036854775807 ∧ L.length ≤ 140737488351232 ∧
    Hid (0 < L.length → ∃ b off, a = some ⟨b, off, none⟩ ∧ Hid (∀ j, j < L.length → ∀ V, Below w.heap.size w V → V.cell? ⟨b, off + j, none⟩ = some (.int .i64 (L.getD j 0)))) := by
  obtain ⟨a, cap, rfl, h1, h2, h3, HC⟩ := hT.some_at
  refine ⟨a, cap, rfl, h1, h2, h3, ?_⟩
  intro h0
  obtain ⟨b, off, rfl, hlt, _⟩ := HC.out 0 h0
  refine ⟨b, off, rfl, ?_⟩
  intro j hj V hV
  obtain ⟨b', off', hbo, _, hc⟩ := HC.out j hj
  obtain ⟨rfl, rfl⟩ : b = b' ∧ off = off' := by simpa using hbo
  have := hc 0 (.int .i64 L[j]) rfl
  rw [getD_at L 0 j hj]
  refine (hV.cell (p := ⟨b, off + j, none⟩) hlt).trans ?_
  simpa using this
theorem vers_pack {h : List Ev} (hw : WF h) (key : List UInt8) (j : Nat) (hj : j < (versL h key).length) : ∃ y f e : Nat, ((versL h key).map Int.ofNat).getD j 0 = (y : Int) ∧ y < h.length ∧ (ev h y).1 = 3 ∧ (ev h y).2.2.1 = key ∧ findL h (ev h y).2.1 = some ((ev h y).2.1, f, e, true) ∧ (srcL h key).getD j 0 = e ∧ ∀ i, i < j → (srcL h key).getD i 0 < e := by
  obtain ⟨f, a1, a2, a3, a4⟩ := vers_at hw key j hj
  have hs := src_len h key
  refine ⟨_, f, _, ?_, a1, a2, a3, a4, ?_, ?_⟩
  · rw [getD_at _ _ _ (by rw [List.length_map]; exact hj), List.getElem_map]; rfl
  · rw [getD_at _ _ _ (by omega)]
  · intro i hi
    rw [getD_at _ _ _ (by omega)]
    exact (List.pairwise_iff_getElem.1 (src_sorted h key)) i j (by omega) (by omega) hi
def lastP (h : List Ev) (key : List UInt8) (j : Nat) : Int := if j = 0 then -1 else (((srcL h key).getD (j - 1) 0 : Nat) : Int)
theorem lastP_zero (h : List Ev) (key : List UInt8) : lastP h key 0 = -1 := by unfold lastP; rw [if_pos rfl]
theorem lastP_next (h : List Ev) (key : List UInt8) (j : Nat) : lastP h key (j + 1) = (((srcL h key).getD j 0 : Nat) : Int) := by unfold lastP; rw [if_neg (by omega)]; rfl
theorem lastP_less (h : List Ev) (key : List UInt8) (j e : Nat) (hs : ∀ i, i < j → (srcL h key).getD i 0 < e) : lastP h key j < (e : Int) := by
  unfold lastP
  by_cases h0 : j = 0
  · rw [if_pos h0]; omega
  · rw [if_neg h0]; have := hs (j - 1) (by omega); omega
theorem vers_some {h : List Ev} (hw : WF h) (key : List UInt8) (k : Nat) (hk : k < h.length) (h3 : (ev h k).1 = 3) (hkey : (ev h k).2.2.1 = key) (f e : Nat) (hf : findL h (ev h k).2.1 = some ((ev h k).2.1, f, e, true)) : ∃ j y : Nat, j < (versL h key).length ∧ ((versL h key).map Int.ofNat).getD j 0 = ((y : Nat) : Int) ∧ (ev h y).2.1 = (ev h k).2.1 ∧ k ≤ y := by
  obtain ⟨m, hm, e1, e2⟩ := vers_has hw key k hk h3 hkey f e hf
  obtain ⟨j, hj, rfl⟩ := List.getElem_of_mem hm
  refine ⟨j, _, hj, ?_, e1, e2⟩
  rw [getD_at _ _ _ (by rw [List.length_map]; exact hj), List.getElem_map]
  rfl
/-- Whether one of the first q versions is of that transaction, and no elder. -/
def InB (h : List Ev) (VV : List Int) (x1 : Int) (k q : Nat) (bo : Bool) : Prop := bo = true ↔ ∃ j y : Nat, j < q ∧ VV.getD j 0 = ((y : Nat) : Int) ∧ (ev h y).2.1 = x1 ∧ k ≤ y
end Go.Proofs.Yteehpkkkagdckaa
namespace Go.Proofs.Yteehpkkkagdckaa
set_option maxRecDepth 100000
set_option linter.unusedVariables false
/-- The first number from m on, below n, of which p says so. -/
def fiF (p : Nat → Bool) (m n : Nat) : Option Nat := ((List.range n).drop m).find? p
theorem fiF_end (p : Nat → Bool) (n : Nat) : fiF p n n = none := by
  unfold fiF
  rw [List.drop_of_length_le (by rw [List.length_range]; exact Nat.le_refl _)]
  rfl
theorem fiF_step (p : Nat → Bool) (m n : Nat) (hm : m < n) : fiF p m n = if p m = true then some m else fiF p (m + 1) n := by
  unfold fiF
  rw [List.drop_eq_getElem_cons (by rw [List.length_range]; exact hm), List.getElem_range]
  by_cases h : p m = true
  · rw [if_pos h, List.find?_cons_of_pos h]
  · rw [if_neg h, List.find?_cons_of_neg h]
theorem fiF_zero (p : Nat → Bool) (n : Nat) : fiF p 0 n = fi p n := rfl
theorem fiF_lt (p : Nat → Bool) (m n i : Nat) (h : fiF p m n = some i) : i < n := by
  unfold fiF at h
  have := List.mem_of_find?_eq_some h
  exact List.mem_range.1 (List.mem_of_mem_drop this)
def isVer (h : List Ev) (v : List Nat) (i n : Nat) : Bool := decide ((ev h (vAt v n)).2.2.2 = (ev h i).2.2.2)
theorem verAt_is (h : List Ev) (v : List Nat) (i : Nat) : verAt h v i = fi (isVer h v i) v.length := rfl
def wTo (h : List Ev) (v : List Nat) (n : Nat) : List Ed := (List.range n).filterMap (wEdge h v)
theorem wTo_next (h : List Ev) (v : List Nat) (n : Nat) : wTo h v (n + 1) = wTo h v n ++ (wEdge h v n).toList := by
  unfold wTo
  rw [List.range_succ, List.filterMap_append]
  cases hl : wEdge h v n with
  | none => simp [hl]
  | some x => simp [hl]
theorem wTo_len (h : List Ev) (v : List Nat) (n : Nat) : (wTo h v n).length ≤ n := by
  unfold wTo
  have := List.length_filterMap_le (wEdge h v) (List.range n)
  rwa [List.length_range] at this
def rOf (h : List Ev) (key : List UInt8) (v : List Nat) (i : Nat) : List Ed := if readOf h key i = true then rdEdges h v i else []
def rTo (h : List Ev) (key : List UInt8) (v : List Nat) (i : Nat) : List Ed := (List.range i).flatMap (rOf h key v)
theorem rTo_next (h : List Ev) (key : List UInt8) (v : List Nat) (i : Nat) : rTo h key v (i + 1) = rTo h key v i ++ rOf h key v i := by
  unfold rTo
  rw [List.range_succ, List.flatMap_append]
  simp
theorem rEdge_len (h : List Ev) (v : List Nat) (i n : Nat) : (rEdge h v i n).length ≤ 1 := by
  unfold rEdge
  by_cases hh : tx h (vAt v n) = tx h i
  · rw [if_pos hh]; simp
  · rw [if_neg hh]; simp
theorem oEdge_len (h : List Ev) (v : List Nat) (i n : Nat) : (oEdge h v i n).length ≤ 1 := by
  unfold oEdge
  by_cases hh : n < v.length ∧ tx h (vAt v n) ≠ tx h i
  · rw [if_pos hh]; simp
  · rw [if_neg hh]; simp
theorem rOf_len (h : List Ev) (key : List UInt8) (v : List Nat) (i : Nat) : (rOf h key v i).length ≤ 2 := by
  unfold rOf
  by_cases hh : readOf h key i = true
  · rw [if_pos hh]
    unfold rdEdges
    cases verAt h v i with
    | none =>
      simp only
      by_cases hv : (ev h i).2.2.2 = []
      · rw [if_pos hv]; have := oEdge_len h v i 0; omega
      · rw [if_neg hv]; simp
    | some n =>
      simp only
      rw [List.length_append]
      have := rEdge_len h v i n
      have := oEdge_len h v i (n + 1)
      omega
  · rw [if_neg hh]; simp
theorem rTo_len (h : List Ev) (key : List UInt8) (v : List Nat) : ∀ i, (rTo h key v i).length ≤ 2 * i
  | 0 => by unfold rTo; simp
  | i + 1 => by
    rw [rTo_next, List.length_append]
    have := rTo_len h key v i
    have := rOf_len h key v i
    omega
def eTo (h : List Ev) (k : Nat) : List Ed := ((keysL h).take k).flatMap (keyEdges h)
theorem eTo_next (h : List Ev) (k : Nat) (hk : k < (keysL h).length) : eTo h (k + 1) = eTo h k ++ keyEdges h (keysL h)[k] := by
  unfold eTo
  rw [List.take_succ_eq_append_getElem hk, List.flatMap_append]
  simp
theorem eTo_all (h : List Ev) : eTo h (keysL h).length = edgesL h := by
  unfold eTo edgesL
  rw [List.take_of_length_le (Nat.le_refl _)]
theorem keyEdges_is (h : List Ev) (key : List UInt8) : keyEdges h key = wTo h (versL h key) ((versL h key).length - 1) ++ rTo h key (versL h key) h.length := rfl
theorem eTo_len (h : List Ev) (n : Nat) (hn : h.length ≤ n) : ∀ k, k ≤ (keysL h).length → (eTo h k).length ≤ k * (3 * n)
  | 0, _ => by unfold eTo; simp
  | k + 1, hk => by
    rw [eTo_next h k (by omega), List.length_append, keyEdges_is, List.length_append]
    have h1 := eTo_len h n hn k (by omega)
    have h2 := wTo_len h (versL h (keysL h)[k]) ((versL h (keysL h)[k]).length - 1)
    have h3 := rTo_len h (keysL h)[k] (versL h (keysL h)[k]) h.length
    have h4 := vers_len h (keysL h)[k]
    rw [Nat.succ_mul]
    omega
theorem vers_lt (h : List Ev) (key : List UInt8) (y : Nat) (hy : y ∈ versL h key) : y < h.length := by
  unfold versL at hy
  obtain ⟨i, hi, hv⟩ := List.mem_filterMap.1 hy
  have := List.mem_range.1 hi
  have := (verOf_some hv).2.2.1
  omega
end Go.Proofs.Yteehpkkkagdckaa
namespace Go.Proofs.Yteehpkkkagdckaa
set_option maxRecDepth 100000
set_option linter.unusedVariables false
/-- The number of a transaction among those that were met. -/
def nf : List Lf → Int → Option Nat
  | [], _ => none
  | y :: L, t => if y.1 = t then some 0 else (nf L t).map (· + 1)
theorem nf_snoc (y : Lf) : ∀ (L : List Lf) (t : Int), nf (L ++ [y]) t = (nf L t).or (if y.1 = t then some L.length else none)
  | [], t => by
    show nf [y] t = _
    rw [nf, nf, nf]
    by_cases h : y.1 = t
    · rw [if_pos h, if_pos h]; rfl
    · rw [if_neg h, if_neg h]; rfl
  | z :: L, t => by
    show nf (z :: (L ++ [y])) t = _
    rw [nf, nf, nf_snoc y L t]
    by_cases h : z.1 = t
    · rw [if_pos h, if_pos h]; rfl
    · rw [if_neg h, if_neg h]
      cases nf L t with
      | none => by_cases h2 : y.1 = t <;> simp [h2]
      | some m => simp
theorem nf_some : ∀ (L : List Lf) (t : Int) (m : Nat), nf L t = some m → ∃ h : m < L.length, L[m].1 = t
  | [], t, m, h => by cases h
  | z :: L, t, m, h => by
    rw [nf] at h
    by_cases hz : z.1 = t
    · rw [if_pos hz] at h
      cases h
      exact ⟨by simp, hz⟩
    · rw [if_neg hz] at h
      cases hn : nf L t with
      | none => rw [hn] at h; cases h
      | some q =>
        rw [hn] at h
        cases h
        obtain ⟨h1, h2⟩ := nf_some L t q hn
        exact ⟨by simp; omega, by simpa using h2⟩
theorem nf_none : ∀ (L : List Lf) (t : Int), nf L t = none ↔ ∀ y ∈ L, y.1 ≠ t
  | [], t => by simp [nf]
  | z :: L, t => by
    rw [nf]
    by_cases hz : z.1 = t
    · rw [if_pos hz]; simp [hz]
    · rw [if_neg hz, Option.map_eq_none_iff, nf_none L t]; simp [hz]
theorem nf_set : ∀ (L : List Lf) (m : Nat) (y : Lf) (t : Int), (∀ h : m < L.length, L[m].1 = y.1) → nf (L.set m y) t = nf L t
  | [], m, y, t, _ => rfl
  | z :: L, 0, y, t, h => by
    have := h (by simp)
    simp only [List.getElem_cons_zero] at this
    rw [List.set_cons_zero, nf, nf, this]
  | z :: L, m + 1, y, t, h => by
    rw [List.set_cons_succ, nf, nf, nf_set L m y t (fun hm => by have := h (by simpa using hm); simpa using this)]
def newL (h : List Ev) (L : List Lf) (x : Fin h.length) : List Lf := if nf L h[x.val].2.1 = none then L ++ [(h[x.val].2.1, x.val, h.length, false)] else L
def numL8 (h : List Ev) (L : List Lf) (x : Fin h.length) : Nat := (nf L h[x.val].2.1).getD L.length
def endS (L : List Lf) (m i : Nat) (b : Bool) : List Lf := L.set m ((L.getD m (0, 0, 0, false)).1, (L.getD m (0, 0, 0, false)).2.1, i, b)
def livS (h : List Ev) (L : List Lf) (x : Fin h.length) : List Lf := if endE h[x.val] then endS (newL h L x) (numL8 h L x) x.val (decide (h[x.val].1 = 4)) else newL h L x
def lvF (h : List Ev) (pre : List (Fin h.length)) : List Lf := pre.foldl (livS h) []
theorem lvF_snoc (h : List Ev) (pre : List (Fin h.length)) (x : Fin h.length) : lvF h (pre ++ [x]) = livS h (lvF h pre) x := by
  unfold lvF
  rw [List.foldl_append]
  rfl
theorem num_lt (h : List Ev) (L : List Lf) (x : Fin h.length) : numL8 h L x < (newL h L x).length := by
  unfold numL8 newL
  cases hn : nf L h[x.val].2.1 with
  | none => rw [if_pos rfl]; simp
  | some m => rw [if_neg (by simp)]; obtain ⟨h1, _⟩ := nf_some _ _ _ hn; exact h1
theorem endS_len (L : List Lf) (m i : Nat) (b : Bool) : (endS L m i b).length = L.length := by unfold endS; rw [List.length_set]
theorem endS_nf (L : List Lf) (m i : Nat) (b : Bool) (t : Int) : nf (endS L m i b) t = nf L t := nf_set L m _ t (fun h => by rw [List.getD_eq_getElem?_getD, List.getElem?_eq_getElem h]; rfl)
theorem new_len (h : List Ev) (L : List Lf) (x : Fin h.length) : (newL h L x).length ≤ L.length + 1 := by
  unfold newL
  by_cases hn : nf L h[x.val].2.1 = none
  · rw [if_pos hn]; simp
  · rw [if_neg hn]; omega
theorem liv_len (h : List Ev) (L : List Lf) (x : Fin h.length) : (livS h L x).length ≤ L.length + 1 := by
  unfold livS
  have := new_len h L x
  by_cases he : endE h[x.val]
  · rw [if_pos he, endS_len]; exact this
  · rw [if_neg he]; exact this
/-- First events up to a place; a life up to it. -/
def fstS (h : List Ev) (k : Nat) : List Nat := (List.range k).filter fun i => decide (fstL h (ev h i).2.1 i = none)
def lifTo (h : List Ev) (k i : Nat) : Lf := match endL h (ev h i).2.1 k with
  | none => ((ev h i).2.1, i, h.length, false)
  | some e => ((ev h i).2.1, i, e, decide ((ev h e).1 = 4))
def livTo (h : List Ev) (k : Nat) : List Lf := (fstS h k).map (lifTo h k)
theorem lifTo_fst (h : List Ev) (k i : Nat) : (lifTo h k i).1 = (ev h i).2.1 := by unfold lifTo; cases endL h (ev h i).2.1 k <;> rfl
theorem endL_grow {h : List Ev} {t : Int} {k e : Nat} (he : endL h t k = some e) : endL h t (k + 1) = some e := by
  rw [endL_some] at he ⊢
  exact ⟨by omega, he.2⟩
theorem endL_other {h : List Ev} {t : Int} {k : Nat} (hn : (ev h k).2.1 ≠ t) : endL h t (k + 1) = endL h t k := by
  cases he : endL h t k with
  | some e => exact endL_grow he
  | none => exact endL_skip h t k he (fun hh => hn hh.1)
theorem lifTo_other {h : List Ev} {k i : Nat} (hn : (ev h k).2.1 ≠ (ev h i).2.1) : lifTo h (k + 1) i = lifTo h k i := by unfold lifTo; rw [endL_other hn]
theorem lifTo_dead {h : List Ev} {k i e : Nat} (he : endL h (ev h i).2.1 k = some e) : lifTo h (k + 1) i = lifTo h k i := by unfold lifTo; rw [endL_grow he, he]
theorem fstS_mem {h : List Ev} {k i : Nat} : i ∈ fstS h k ↔ i < k ∧ fstL h (ev h i).2.1 i = none := by
  unfold fstS
  rw [List.mem_filter, List.mem_range, decide_eq_true_eq]
theorem fstS_one {h : List Ev} {k i j : Nat} (hi : i ∈ fstS h k) (hj : j ∈ fstS h k) (he : (ev h i).2.1 = (ev h j).2.1) : i = j := by
  obtain ⟨i1, i2⟩ := fstS_mem.1 hi
  obtain ⟨j1, j2⟩ := fstS_mem.1 hj
  rcases Nat.lt_trichotomy i j with hl | hl | hl
  · exact absurd he ((fstL_none h _ _).1 j2 i hl)
  · exact hl
  · exact absurd he.symm ((fstL_none h _ _).1 i2 j hl)
theorem fstS_next (h : List Ev) (k : Nat) : fstS h (k + 1) = fstS h k ++ if fstL h (ev h k).2.1 k = none then [k] else [] := by
  unfold fstS
  rw [List.range_succ, List.filter_append]
  congr 1
  by_cases hf : fstL h (ev h k).2.1 k = none
  · rw [if_pos hf, List.filter_cons_of_pos (by rw [decide_eq_true_eq]; exact hf)]; rfl
  · rw [if_neg hf, List.filter_cons_of_neg (by rw [decide_eq_true_eq]; exact hf)]; rfl
theorem fstS_inj (h : List Ev) (k m j : Nat) (hm : m < (fstS h k).length) (hj : j < (fstS h k).length) (he : (fstS h k)[m] = (fstS h k)[j]) : m = j := by
  have hp : (fstS h k).Pairwise (· < ·) := List.Pairwise.filter _ List.pairwise_lt_range
  rw [List.pairwise_iff_getElem] at hp
  rcases Nat.lt_trichotomy m j with hl | hl | hl
  · have := hp m j hm hj hl; omega
  · exact hl
  · have := hp j m hj hm hl; omega
theorem fm_congr {α β : Type} {f g : α → Option β} : ∀ {l : List α}, (∀ i ∈ l, f i = g i) → l.filterMap f = l.filterMap g
  | [], _ => rfl
  | a :: l, hh => by
    rw [List.filterMap_cons, List.filterMap_cons, hh a (by simp), fm_congr (fun i hi => hh i (by simp [hi]))]
theorem livTo_nf (h : List Ev) (k : Nat) (t : Int) : nf (livTo h k) t = none ↔ fstL h t k = none := by
  rw [nf_none]
  constructor
  · intro hh
    cases hf : fstL h t k with
    | none => rfl
    | some f =>
      obtain ⟨f1, f2, f3⟩ := (fstL_some h t k f).1 hf
      have hm : lifTo h k f ∈ livTo h k := List.mem_map.2 ⟨f, fstS_mem.2 ⟨f1, (fstL_none h _ _).2 (by rw [f2]; exact f3)⟩, rfl⟩
      exact absurd ((lifTo_fst h k f).trans f2) (hh _ hm)
  · intro hf y hy
    obtain ⟨i, hi, rfl⟩ := List.mem_map.1 hy
    obtain ⟨i1, i2⟩ := fstS_mem.1 hi
    rw [lifTo_fst]
    exact (fstL_none h t k).1 hf i i1
theorem lives_take (h : List Ev) : ∀ k, k ≤ h.length → lvF h (livF h ((List.finRange h.length).take k)) = livTo h k
  | 0, _ => rfl
  | k + 1, hk => by
    have ih := lives_take h k (by omega)
    have hk' : k < h.length := by omega
    rw [fin_take hk']
    have hd := endedIn_take h k (by omega) h[k].2.1
    have ek := ev_get h k hk'
    cases he : endL h h[k].2.1 k with
    | some e =>
      rw [he] at hd
      rw [livF_snoc_dead h _ ⟨k, hk'⟩ hd, ih]
      obtain ⟨e1, e2, e3⟩ := (endL_some h _ _ _).1 he
      have hf : ¬ fstL h (ev h k).2.1 k = none := by
        intro hf
        rw [ek] at hf
        exact (fstL_none h _ _).1 hf e e1 e2.1
      unfold livTo
      rw [fstS_next, if_neg hf, List.append_nil]
      apply List.map_congr_left
      intro i hi
      by_cases hn : (ev h k).2.1 = (ev h i).2.1
      · exact (lifTo_dead (e := e) (by rw [← hn, ek]; exact he)).symm
      · exact (lifTo_other hn).symm
    | none =>
      rw [he] at hd
      rw [livF_snoc h _ ⟨k, hk'⟩ hd, lvF_snoc, ih]
      by_cases hf : fstL h (ev h k).2.1 k = none
      · have hnf : nf (livTo h k) h[k].2.1 = none := (livTo_nf h k _).2 (by rw [← ek]; exact hf)
        have hnew : newL h (livTo h k) ⟨k, hk'⟩ = livTo h k ++ [(h[k].2.1, k, h.length, false)] := by unfold newL; rw [if_pos hnf]
        have hold : (fstS h k).map (lifTo h (k + 1)) = livTo h k := by
          apply List.map_congr_left
          intro i hi
          obtain ⟨i1, i2⟩ := fstS_mem.1 hi
          exact lifTo_other (fun hh => (fstL_none h _ _).1 hf i i1 hh.symm)
        have hnum : numL8 h (livTo h k) ⟨k, hk'⟩ = (livTo h k).length := by unfold numL8; rw [hnf]; rfl
        have hR : livTo h (k + 1) = livTo h k ++ [lifTo h (k + 1) k] := by
          show (fstS h (k + 1)).map (lifTo h (k + 1)) = _
          rw [fstS_next, if_pos hf, List.map_append, hold]
          rfl
        rw [hR]
        unfold livS
        rw [hnew, hnum]
        by_cases hn : endE h[k]
        · have hE : lifTo h (k + 1) k = (h[k].2.1, k, k, decide (h[k].1 = 4)) := by
            unfold lifTo
            rw [ek, (endL_some h _ _ _).2 ⟨by omega, ⟨by rw [ek], by rw [ek]; exact hn⟩, (endL_none h _ _).1 he⟩]
            simp only [ek]
          rw [if_pos hn, hE]
          unfold endS
          rw [List.set_append_right _ _ (Nat.le_refl _), Nat.sub_self, List.set_cons_zero]
          simp
        · have hE : lifTo h (k + 1) k = (h[k].2.1, k, h.length, false) := by
            unfold lifTo
            rw [ek, endL_skip h _ k he (fun hh => hn (by rw [← ek]; exact hh.2))]
          rw [if_neg hn, hE]
      · have hnf : nf (livTo h k) h[k].2.1 ≠ none := fun hh => hf (by rw [ek]; exact (livTo_nf h k _).1 hh)
        have hnew : newL h (livTo h k) ⟨k, hk'⟩ = livTo h k := by unfold newL; rw [if_neg hnf]
        have hR : livTo h (k + 1) = (fstS h k).map (lifTo h (k + 1)) := by
          show (fstS h (k + 1)).map (lifTo h (k + 1)) = _
          rw [fstS_next, if_neg hf, List.append_nil]
        unfold livS
        rw [hnew, hR]
        by_cases hn : endE h[k]
        · rw [if_pos hn]
          cases hm : nf (livTo h k) h[k].2.1 with
          | none => exact absurd hm hnf
          | some m =>
            obtain ⟨m1, m2⟩ := nf_some _ _ _ hm
            have hnum : numL8 h (livTo h k) ⟨k, hk'⟩ = m := by unfold numL8; rw [hm]; rfl
            have ml : m < (fstS h k).length := by unfold livTo at m1; rwa [List.length_map] at m1
            have mg : (livTo h k)[m] = lifTo h k (fstS h k)[m] := List.getElem_map (lifTo h k)
            rw [mg, lifTo_fst] at m2
            rw [hnum]
            unfold endS
            have hgd : (livTo h k).getD m (0, 0, 0, false) = lifTo h k (fstS h k)[m] := by rw [List.getD_eq_getElem?_getD, List.getElem?_eq_getElem m1, mg]; rfl
            rw [hgd]
            apply List.ext_getElem
            · rw [List.length_set, List.length_map]; unfold livTo; rw [List.length_map]
            · intro j j1 j2
              rw [List.getElem_set, List.getElem_map]
              by_cases hj : m = j
              · subst hj
                rw [if_pos rfl]
                have hE : lifTo h (k + 1) (fstS h k)[m] = (h[k].2.1, (fstS h k)[m], k, decide (h[k].1 = 4)) := by
                  unfold lifTo
                  rw [m2, (endL_some h _ _ _).2 ⟨by omega, ⟨by rw [ek], by rw [ek]; exact hn⟩, (endL_none h _ _).1 he⟩]
                  simp only [ek]
                rw [hE]
                have hO : lifTo h k (fstS h k)[m] = (h[k].2.1, (fstS h k)[m], h.length, false) := by
                  unfold lifTo
                  rw [m2, he]
                rw [hO]
              · rw [if_neg hj]
                have jl : j < (fstS h k).length := by simpa using j2
                have hg : (livTo h k)[j]'(by unfold livTo; simpa using j2) = lifTo h k (fstS h k)[j] := List.getElem_map (lifTo h k)
                rw [hg]
                refine (lifTo_other (fun hh => hj ?_)).symm
                have hsame : (fstS h k)[m] = (fstS h k)[j] := fstS_one (k := k) (List.getElem_mem _) (List.getElem_mem _) (by rw [m2, ← hh, ek])
                exact fstS_inj h k m j ml jl hsame
        · rw [if_neg hn]
          unfold livTo
          apply List.map_congr_left
          intro i hi
          by_cases hx : (ev h k).2.1 = (ev h i).2.1
          · unfold lifTo
            rw [← hx, ek, he, endL_skip h _ k he (fun hh => hn (by rw [← ek]; exact hh.2))]
          · exact (lifTo_other hx).symm
theorem lives_liv (h : List Ev) : lvF h (livP h) = livesL h := by
  have h1 := lives_take h h.length (Nat.le_refl _)
  rw [List.take_of_length_le (by rw [List.length_finRange]; exact Nat.le_refl _)] at h1
  show lvF h (livF h _) = _
  rw [h1]
  unfold livTo livesL fstS
  rw [← List.filterMap_eq_filter, List.map_filterMap]
  apply fm_congr
  intro i hi
  have hil := List.mem_range.1 hi
  simp only [Option.guard]
  by_cases hf : fstL h (ev h i).2.1 i = none
  · have hfn : fstL h (ev h i).2.1 h.length = some i := (fstL_some h _ _ _).2 ⟨hil, rfl, (fstL_none h _ _).1 hf⟩
    rw [if_pos hf]
    unfold findL
    rw [hfn]
    simp only [hf]
    unfold lifTo
    cases he : endL h (ev h i).2.1 h.length <;> simp [he]
  · rw [if_neg hf]
    simp [hf]
theorem lvF_len (h : List Ev) : ∀ (pre : List (Fin h.length)) (L : List Lf), (pre.foldl (livS h) L).length ≤ L.length + pre.length
  | [], L => Nat.le_refl _
  | x :: pre, L => by
    have h1 := lvF_len h pre (livS h L x)
    have h2 := liv_len h L x
    rw [List.foldl_cons, List.length_cons]
    omega
theorem lvF_few (h : List Ev) (pre : List (Fin h.length)) : (lvF h pre).length ≤ pre.length := by have := lvF_len h pre []; simpa [lvF] using this
end Go.Proofs.Yteehpkkkagdckaa
namespace Go.Proofs.Yteehpkkkagdckaa
set_option maxRecDepth 100000
set_option linter.unusedVariables false
def updN (f : Int → Option Nat) (t : Int) (k : Nat) : Int → Option Nat := fun u => if u = t then some k else f u
/-- What is known of last writes behind an event; the versions. -/
def lastS (h : List Ev) (key : List UInt8) (f : Int → Option Nat) (x : Fin h.length) : Int → Option Nat := if h[x.val].1 = 3 ∧ h[x.val].2.2.1 = key then updN f h[x.val].2.1 x.val else f
def versS (h : List Ev) (key : List UInt8) (s : (Int → Option Nat) × List Nat) (x : Fin h.length) : (Int → Option Nat) × List Nat :=
  (lastS h key s.1 x, if h[x.val].1 = 4 then s.2 ++ (lastS h key s.1 x h[x.val].2.1).toList else s.2)
def versF (h : List Ev) (key : List UInt8) (pre : List (Fin h.length)) : (Int → Option Nat) × List Nat := pre.foldl (versS h key) (fun _ => none, [])
theorem versF_snoc (h : List Ev) (key : List UInt8) (pre : List (Fin h.length)) (x : Fin h.length) : versF h key (pre ++ [x]) = versS h key (versF h key pre) x := by
  unfold versF
  rw [List.foldl_append]
  rfl
theorem versF_len (h : List Ev) (key : List UInt8) (x : Fin h.length) (s : (Int → Option Nat) × List Nat) : (versS h key s x).2.length ≤ s.2.length + 1 := by
  unfold versS
  simp only
  by_cases h4 : h[x.val].1 = 4
  · rw [if_pos h4, List.length_append]
    cases lastS h key s.1 x h[x.val].2.1 <;> simp
  · rw [if_neg h4]; omega
theorem endL_upto {h : List Ev} {t : Int} {k : Nat} (he : endL h t k = none) (hx : (ev h k).2.1 = t) (h4 : (ev h k).1 = 4 ∨ (ev h k).1 = 5) (hk : k < h.length) : endL h t h.length = some k := (endL_some h t h.length k).2 ⟨hk, ⟨hx, h4⟩, (endL_none h t k).1 he⟩
theorem vers_take (h : List Ev) (key : List UInt8) : ∀ k, k ≤ h.length →
    (versF h key (livF h ((List.finRange h.length).take k))).2 = (List.range k).filterMap (verOf h key) ∧ ∀ t, endL h t k = none → (versF h key (livF h ((List.finRange h.length).take k))).1 t = lastN h t key k
  | 0, _ => ⟨rfl, fun t _ => rfl⟩
  | k + 1, hk => by
    obtain ⟨ih1, ih2⟩ := vers_take h key k (by omega)
    have hk' : k < h.length := by omega
    rw [fin_take hk']
    have hd := endedIn_take h k (by omega) h[k].2.1
    have ek := ev_get h k hk'
    rw [List.range_succ, List.filterMap_append]
    cases he : endL h h[k].2.1 k with
    | some e =>
      rw [he] at hd
      rw [livF_snoc_dead h _ ⟨k, hk'⟩ hd]
      constructor
      · rw [ih1]
        have : verOf h key k = none := by
          unfold verOf
          rw [if_neg]
          rintro ⟨_, h2⟩
          rw [ek] at h2
          obtain ⟨e1, e2, e3⟩ := (endL_some h _ _ _).1 he
          exact ((endL_some h _ _ _).1 h2).2.2 e (by omega) e2
        simp [this]
      · intro t ht
        have hne : (ev h k).2.1 ≠ t := by
          intro hh
          rw [ek] at hh
          rw [hh] at he
          obtain ⟨e1, e2, e3⟩ := (endL_some h _ _ _).1 he
          exact (endL_none h t (k + 1)).1 ht e (by omega) e2
        have h0 : endL h t k = none := (endL_none h t k).2 (fun j hj => (endL_none h t (k + 1)).1 ht j (by omega))
        rw [ih2 t h0]
        show _ = la _ (k + 1)
        rw [la, if_neg]
        · rfl
        · unfold isWrT
          rw [decide_eq_true_eq]
          exact fun hh => hne hh.2.1
    | none =>
      rw [he] at hd
      rw [livF_snoc h _ ⟨k, hk'⟩ hd, versF_snoc]
      generalize hs : versF h key (livF h ((List.finRange h.length).take k)) = s at ih1 ih2
      have hl : (lastS h key s.1 ⟨k, hk'⟩) h[k].2.1 = lastN h h[k].2.1 key (k + 1) := by
        show _ = la _ (k + 1)
        rw [la]
        unfold lastS
        simp only
        by_cases hw : h[k].1 = 3 ∧ h[k].2.2.1 = key
        · rw [if_pos hw, if_pos]
          · unfold updN; rw [if_pos rfl]
          · unfold isWrT; rw [ek, decide_eq_true_eq]; exact ⟨hw.1, rfl, hw.2⟩
        · rw [if_neg hw, if_neg]
          · exact ih2 _ he
          · unfold isWrT; rw [ek, decide_eq_true_eq]; exact fun hh => hw ⟨hh.1, hh.2.2⟩
      constructor
      · show (if h[k].1 = 4 then s.2 ++ (lastS h key s.1 ⟨k, hk'⟩ h[k].2.1).toList else s.2) = _
        by_cases h4 : h[k].1 = 4
        · rw [if_pos h4, ih1, hl]
          have h3 : ¬ isWrT h h[k].2.1 key k = true := by
            unfold isWrT; rw [ek, decide_eq_true_eq]; rintro ⟨hh, _⟩; rw [h4] at hh; cases hh
          have : verOf h key k = lastN h h[k].2.1 key (k + 1) := by
            unfold verOf
            rw [ek, if_pos ⟨h4, endL_upto he (by rw [ek]) (by rw [ek]; exact Or.inl h4) hk'⟩]
            show _ = la _ (k + 1)
            rw [la, if_neg h3]
            rfl
          rw [← this]
          have e : List.filterMap (verOf h key) [k] = (verOf h key k).toList := by cases hv : verOf h key k <;> simp [hv]
          rw [e]
        · rw [if_neg h4, ih1]
          have : verOf h key k = none := by
            unfold verOf
            rw [if_neg]
            rintro ⟨h1, _⟩
            rw [ek] at h1
            exact h4 h1
          simp [this]
      · intro t ht
        by_cases hne : h[k].2.1 = t
        · subst hne; exact hl
        · have h0 : endL h t k = none := (endL_none h t k).2 (fun j hj => (endL_none h t (k + 1)).1 ht j (by omega))
          show lastS h key s.1 ⟨k, hk'⟩ t = la _ (k + 1)
          rw [la, if_neg]
          · unfold lastS
            simp only
            by_cases hw : h[k].1 = 3 ∧ h[k].2.2.1 = key
            · rw [if_pos hw]
              unfold updN
              rw [if_neg (fun e => hne e.symm)]
              exact ih2 t h0
            · rw [if_neg hw]; exact ih2 t h0
          · unfold isWrT
            rw [ek, decide_eq_true_eq]
            exact fun hh => hne hh.2.1
theorem vers_liv (h : List Ev) (key : List UInt8) : (versF h key (livP h)).2 = versL h key := by
  have := (vers_take h key h.length (Nat.le_refl _)).1
  rwa [List.take_of_length_le (by rw [List.length_finRange]; exact Nat.le_refl _)] at this
end Go.Proofs.Yteehpkkkagdckaa
namespace Go.Proofs.Yteehpkkkagdckaa
set_option maxRecDepth 100000
set_option linter.unusedVariables false
def cmO (y : Lf) : Option Int := if y.2.2.2 = true then some y.1 else none
def cmF (L : List Lf) : List Int := L.filterMap cmO
theorem cmF_yes (L : List Lf) (k : Nat) (hk : k < L.length) (h : L[k].2.2.2 = true) : cmF (L.take (k + 1)) = cmF (L.take k) ++ [L[k].1] := by
  unfold cmF
  rw [List.take_succ_eq_append_getElem hk, List.filterMap_append]
  congr 1
  simp [cmO, h]
theorem cmF_no (L : List Lf) (k : Nat) (hk : k < L.length) (h : L[k].2.2.2 = false) : cmF (L.take (k + 1)) = cmF (L.take k) := by
  unfold cmF
  rw [List.take_succ_eq_append_getElem hk, List.filterMap_append]
  rw [show [L[k]].filterMap cmO = [] by rw [List.filterMap_cons]; simp [cmO, h]]
  simp
theorem cmF_len (L : List Lf) : (cmF L).length ≤ L.length := List.length_filterMap_le _ _
theorem cm_mem (h : List Ev) (t : Int) : t ∈ cmF (livesL h) ↔ commL h t ≠ none := by
  unfold cmF livesL
  rw [List.mem_filterMap]
  constructor
  · rintro ⟨⟨t', f, e, b⟩, hy, hc⟩
    obtain ⟨i, hi, hh⟩ := List.mem_filterMap.1 hy
    by_cases h0 : fstL h (ev h i).2.1 i = none
    · rw [if_pos h0] at hh
      unfold cmO at hc
      simp only at hc
      cases b with
      | false => simp at hc
      | true =>
        simp only [if_true, Option.some.injEq] at hc
        obtain ⟨e1, e2⟩ := find_comm h _ 0 f e t' hh
        rw [← hc, e1, e2]
        simp
    · rw [if_neg h0] at hh; cases hh
  · intro hc
    cases hq : commL h t with
    | none => exact absurd hq hc
    | some e =>
      obtain ⟨f, hf⟩ := comm_find h t e hq
      cases hF : fstL h t h.length with
      | none => exact absurd (comm_has h t hF) hc
      | some i =>
        obtain ⟨i1, i2, i3⟩ := (fstL_some h t _ i).1 hF
        refine ⟨(t, f, e, true), List.mem_filterMap.2 ⟨i, List.mem_range.2 i1, ?_⟩, rfl⟩
        rw [i2, if_pos ((fstL_none h t i).2 i3), hf]
theorem cm_nodup (h : List Ev) : (cmF (livesL h)).Nodup := by
  unfold cmF livesL
  rw [List.filterMap_filterMap]
  refine List.Pairwise.filterMap (R := fun a b : Nat => a < b) _ ?_ List.pairwise_lt_range
  intro a b hab x hx y hy exy
  have key : ∀ i z, (Option.bind (if fstL h (ev h i).2.1 i = none then findL h (ev h i).2.1 else none) cmO) = some z → fstL h (ev h i).2.1 i = none ∧ (ev h i).2.1 = z := by
    intro i z hz
    by_cases h0 : fstL h (ev h i).2.1 i = none
    · rw [if_pos h0] at hz
      refine ⟨h0, ?_⟩
      cases hf : findL h (ev h i).2.1 with
      | none => rw [hf] at hz; cases hz
      | some q =>
        obtain ⟨t', f, e, b⟩ := q
        rw [hf] at hz
        simp only [Option.bind_some, cmO] at hz
        cases b with
        | false => simp at hz
        | true =>
          simp only [if_true, Option.some.injEq] at hz
          rw [← hz, (find_comm h _ 0 f e t' hf).1]
    · rw [if_neg h0] at hz; cases hz
  obtain ⟨a1, a2⟩ := key a x hx
  obtain ⟨b1, b2⟩ := key b y hy
  exact (fstL_none h _ b).1 b1 a hab (by rw [a2, b2, exy])
theorem nd_sorted (h : List Ev) (k : Nat) : (ndL h k).Pairwise (fun a b => a < b) := by
  unfold ndL
  refine List.Pairwise.filterMap (R := fun a b : Nat => a < b) _ ?_ List.pairwise_lt_range
  intro a b hab x hx y hy
  unfold ndOf at hx hy
  by_cases h1 : commL h ((a : Int) - 1) = none
  · rw [if_pos h1] at hx; cases hx
  · by_cases h2 : commL h ((b : Int) - 1) = none
    · rw [if_pos h2] at hy; cases hy
    · rw [if_neg h1] at hx
      rw [if_neg h2] at hy
      cases hx
      cases hy
      omega
theorem node_sorted (h : List Ev) (hf : ∀ x ∈ h, 0 ≤ x.2.1 ∧ x.2.1 ≤ 99) : ((cmF (livesL h)).mergeSort fun x y => decide (x ≤ y)) = nodeL h := by
  have nd : (nodeL h).Nodup := List.Pairwise.imp (fun {a b} hlt e => by omega) (nd_sorted h 301)
  have pm : (cmF (livesL h)).Perm (nodeL h) := by
    refine (List.perm_ext_iff_of_nodup (cm_nodup h) nd).2 fun t => ?_
    rw [cm_mem]
    unfold nodeL
    rw [nd_mem]
    constructor
    · intro hc
      refine ⟨?_, hc⟩
      cases hF : fstL h t h.length with
      | none => exact absurd (comm_has h t hF) hc
      | some i =>
        obtain ⟨i1, i2, i3⟩ := (fstL_some h t _ i).1 hF
        have := hf h[i] (List.getElem_mem i1)
        rw [← ev_get h i i1, i2] at this
        omega
    · exact fun hh => hh.2
  refine List.Perm.eq_of_pairwise (le := fun x y : Int => x ≤ y) (fun a b _ _ h1 h2 => Int.le_antisymm h1 h2) ?_ ?_ ((List.mergeSort_perm _ _).trans pm)
  · refine (List.pairwise_mergeSort (le := fun x y : Int => decide (x ≤ y)) (fun a b c h1 h2 => ?_) (fun a b => ?_) (cmF (livesL h))).imp (fun {a b} hh => by simpa using hh)
    · rw [decide_eq_true_eq] at h1 h2 ⊢
      omega
    · rw [Bool.or_eq_true, decide_eq_true_eq, decide_eq_true_eq]
      omega
  · exact (nd_sorted h 301).imp (fun {a b} hh => by omega)
end Go.Proofs.Yteehpkkkagdckaa
namespace Go.Proofs.Yteehpkkkagdckaa
set_option maxRecDepth 100000
set_option linter.unusedVariables false
/-- Was what a read saw there ahead of a place? -/
def aheadQ (h : List Ev) (key val : List UInt8) (b : Nat) : Bool := if val = [] then true else match writerL h key val with
  | none => false
  | some w => (findP h (ev h w).2.1).1.2.2.2 && decide ((findP h (ev h w).2.1).1.2.2.1 < b)
theorem hold_no (h : List Ev) (e : Ed) (hn : ¬ holdsL h e) : holdsC h e = false := by
  cases hb : holdsC h e with
  | false => rfl
  | true => exact absurd ((holdsC_iff h e).1 hb) hn
theorem hold_inv (h : List Ev) (k f t : Int) (i j : Nat) (hh : holdsL h (k, f, t, (i : Int), (j : Int))) : (ev h i).2.2.1 = (ev h j).2.2.1 ∧ (ev h i).2.1 = f ∧ (ev h j).2.1 = t := by
  obtain ⟨a', b', i', j', q1, q2, q3, q4, q5, q6, q7, q8, q9, q10, _⟩ := hh
  simp only at q4 q5 q9 q10
  obtain rfl : i' = i := by omega
  obtain rfl : j' = j := by omega
  exact ⟨q8, q9, q10⟩
theorem hold_main (h : List Ev) (k f t : Int) (i j a b : Nat) (x0 y0 : Int) (x2 x3 y3 : List UInt8) (ha : commL h f = some a) (hb : commL h t = some b) (hft : f ≠ t) (hi : i < h.length) (hj : j < h.length) (hx : ev h i = (x0, f, x2, x3)) (hy : ev h j = (y0, t, x2, y3)) :
    holdsC h (k, f, t, (i : Int), (j : Int)) = if k = 1 then decide (x0 = 3) && decide (y0 = 3) && decide (a < b) else if k = 2 then decide (x0 = 3) && decide (y0 = 2) && decide (x3 = y3) else if k = 3 then decide (x0 = 2) && decide (y0 = 3) && aheadQ h x2 x3 b else false := by
  unfold holdsC
  simp only [ha, hb]
  rw [if_neg hft, if_neg (by omega), if_neg (by omega), if_neg (by omega), if_neg (by omega), Int.toNat_natCast, Int.toNat_natCast, hx, hy]
  unfold holdsK
  simp only
  rw [if_neg (fun e => e rfl), if_neg (fun e => e rfl), if_neg (fun e => e rfl)]
  by_cases k1 : k = 1
  · rw [if_pos k1, if_pos k1]
  · rw [if_neg k1, if_neg k1]
    by_cases k2 : k = 2
    · rw [if_pos k2, if_pos k2]
    · rw [if_neg k2, if_neg k2]
      by_cases k3 : k = 3
      · rw [if_neg (fun e => e k3), if_pos k3]
        by_cases p : x0 = 2
        · rw [if_neg (fun e => e p), decide_eq_true p]
          by_cases q : y0 = 3
          · rw [if_neg (fun e => e q), decide_eq_true q]
            unfold aheadQ
            by_cases v0 : x3 = []
            · rw [if_pos v0, if_pos v0]; rfl
            · rw [if_neg v0, if_neg v0]
              cases hw : writerL h x2 x3 with
              | none => rfl
              | some w =>
                simp only [Bool.true_and]
                have ht : tx h w = (ev h w).2.1 := rfl
                rw [ht]
                rcases life_comm h (ev h w).2.1 with ⟨e, f', h1, h2⟩ | ⟨h1, h2⟩
                · rw [h1, h2]
                  simp only [Bool.true_and]
                  by_cases hq : (ev h w).2.1 = t
                  · rw [if_pos hq]
                    rw [hq, hb] at h1
                    cases h1
                    simp
                  · rw [if_neg hq]
                · rw [h1, h2]
                  simp
          · rw [if_pos q, decide_eq_false q]; simp
        · rw [if_pos p, decide_eq_false p]; simp
      · rw [if_pos k3, if_neg k3]
end Go.Proofs.Yteehpkkkagdckaa
namespace Go.Proofs.Yteehpkkkagdckaa
set_option maxRecDepth 100000
set_option linter.unusedVariables false
def noReads (h : List Ev) : List Ev := h.filter fun x => decide (x.1 ≠ 2)
theorem noReads_next (h : List Ev) (k : Nat) (hk : k < h.length) : noReads (h.take (k + 1)) = if h[k].1 = 2 then noReads (h.take k) else noReads (h.take k) ++ [h[k]] := by
  unfold noReads
  rw [List.take_succ_eq_append_getElem hk, List.filter_append]
  by_cases h2 : h[k].1 = 2
  · rw [if_pos h2]; simp [h2]
  · rw [if_neg h2]; simp [h2]
theorem noReads_cut (h : List Ev) (m : Nat) (hl : h.length ≤ 256) (hm : m ≤ (noReads h).length) : ((formedL (noReads h)).1 < m ∧ (formedL (noReads h)).2 ≠ 0 ∧ formedL ((noReads h).take m) = formedL (noReads h)) ∨ (¬ ((formedL (noReads h)).1 < m ∧ (formedL (noReads h)).2 ≠ 0) ∧ (formedL ((noReads h).take m)).1 = m ∧ ((formedL ((noReads h).take m)).2 = 0 ∨ (formedL ((noReads h).take m)).2 = 9)) := by
  have hr : ∀ i, i < (noReads h).length → (ev (noReads h) i).1 ≠ 2 := fun i hi => by
    rw [ev_get _ _ hi]
    exact of_decide_eq_true (List.mem_filter.1 (List.getElem_mem hi)).2
  have hle : (noReads h).length ≤ 256 := Nat.le_trans (List.length_filter_le _ _) hl
  have := formed_cut (noReads h) m hr hle hm
  by_cases hc : (formedL (noReads h)).1 < m ∧ (formedL (noReads h)).2 ≠ 0
  · exact .inl ⟨hc.1, hc.2, this.1 hc⟩
  · exact .inr ⟨hc, this.2 hc⟩
end Go.Proofs.Yteehpkkkagdckaa
namespace Go.Proofs.Yteehpkkkagdckaa
set_option maxRecDepth 100000
open Go.RowKit
/-- A number that an int may be. -/
def goodI (t : Int) : Prop := -9223372036854775808 ≤ t ∧ t ≤ 9223372036854775807
/-- Texts, made. -/
def TxsRow (w : World) (K : List (List UInt8)) (e : Ending) (w' : World) : Prop := ∃ v, e = .returned v ∧ Below w.heap.size w w' ∧ w'.ownsRow w.heap.size 9 1 v K.length (strV K)
end Go.Proofs.Yteehpkkkagdckaa
namespace Go.Proofs.Yteehpkkkagdckaa
set_option maxRecDepth 100000
open Go.RowKit
set_option linter.unusedVariables false
def okN (t : Int) : Prop := -9223372036854775808 ≤ t ∧ t ≤ 9223372036854775807
def goodEd (x : Ed) : Prop := okN x.1 ∧ okN x.2.1 ∧ okN x.2.2.1 ∧ okN x.2.2.2.1 ∧ okN x.2.2.2.2
/-- Few events, of few transactions. -/
abbrev fewH (h : List Ev) : Prop := (∀ x ∈ h, 0 ≤ x.2.1 ∧ x.2.1 ≤ 99) ∧ h.length ≤ 120
structure P10C : Prop where
  all : ∀ (h : List Ev) (v : Value) (w : World), IsEvs w v h → (∀ x ∈ h, goodE x) → h.length ≤ 300 → Calls Try.prog 13 #[v] w fun e w' => EdRow 24 w (edgesL h) e w'
  holds : ∀ (h : List Ev) (v : Value) (w : World) (k f t I J : Int), IsEvs w v h → (∀ x ∈ h, goodE x) → h.length ≤ 300 → goodEd (k, f, t, I, J) → Calls Try.prog 18 #[v, .agg #[.int .i64 k, .int .i64 f, .int .i64 t, .int .i64 I, .int .i64 J]] w fun e w' => e = .returned (.bool (holdsC h (k, f, t, I, J))) ∧ Below w.heap.size w w'
  nodes : ∀ (h : List Ev) (v : Value) (w : World), IsEvs w v h → (∀ x ∈ h, goodE x) → fewH h → Calls Try.prog 16 #[v] w fun e w' => InRow w (nodeL h) e w'
  steps : ∀ (level : Int) (l : List Ed) (v : Value) (w : World), IsEds w v l → (∀ x ∈ l, goodEd x) → l.length ≤ 1000 → okN level → Calls Try.prog 21 #[.int .i64 level, v] w fun e w' => StRow 50 w (stepsL level l) e w'
end Go.Proofs.Yteehpkkkagdckaa
