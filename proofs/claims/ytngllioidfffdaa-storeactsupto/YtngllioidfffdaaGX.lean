/-
  A store opened from a tape: how far its records have been done.
  What putting, sealing and noting come to: in lists.
-/
import Derived.Test.YtngllioidfffdaaGV
import Derived.Test.YtngllioidfffdaaGS
import Derived.Lib.Hide
import Derived.Test.YtngllioidfffdaaGU
namespace Go.Proofs.Ytngllioidfffdaa
set_option maxRecDepth 100000
open Go.RowKit
set_option linter.unusedVariables false
theorem fold_snoc : ∀ (l : List (List UInt8)) (x : Sd) (r : List UInt8), foldS x (l ++ [r]) = match foldS x l with | none => none | some y => doesS y r
  | [], x, r => by show (match doesS x r with | none => none | some y => some y) = doesS x r; cases doesS x r <;> rfl
  | a :: l, x, r => by
    rw [List.cons_append]
    unfold foldS
    cases doesS x a with
    | none => rfl
    | some y => exact fold_snoc l y r
theorem fold_none : ∀ (l m : List (List UInt8)) (x : Sd), foldS x l = none → foldS x (l ++ m) = none
  | [], m, x, h => by cases h
  | a :: l, m, x, h => by
    rw [List.cons_append]
    unfold foldS at h ⊢
    cases hd : doesS x a with
    | none => rfl
    | some y => rw [hd] at h; exact fold_none l m y h
theorem fold_next {L : List (List UInt8)} {k : Nat} (hk : k < L.length) {x y z : Sd} (h : foldS x (L.take k) = some y) (hd : doesS y L[k] = some z) : foldS x (L.take (k + 1)) = some z := by
  rw [List.take_succ_eq_append_getElem hk, fold_snoc, h]; exact hd
theorem fold_odd {L : List (List UInt8)} {k : Nat} (hk : k < L.length) {x y : Sd} (h : foldS x (L.take k) = some y) (hd : doesS y L[k] = none) : foldS x L = none := by
  have e : foldS x (L.take (k + 1)) = none := by rw [List.take_succ_eq_append_getElem hk, fold_snoc, h]; exact hd
  have := fold_none _ (L.drop (k + 1)) x e
  rwa [List.take_append_drop] at this
/-- The store that is made, in block n (of stores); what it holds lies at or above n. -/
structure OpS (w wr : World) (n : Nat) (T : Tp) (v : Value) (L : List (List UInt8)) (k : Nat) (uo uh uc : Value) (G : List Value) (y : Sd) : Prop where
  bel : Below w.heap.size w wr
  br : SBox wr (w.heap.size + 1) 28 zS17
  bs : SBox wr n 28 (stC T uo uh uc)
  row : wr.ownsRow (n + 1) 9 1 v L.length (strV L)
  fo : foldS ([], [], []) (L.take k) = some y
  st : ∀ V, Agr (n + 1) wr V → StIn V uo uh uc G y
/-- Behind what a record does. -/
theorem OpS.next {w wr w2 : World} {n : Nat} {T : Tp} {v : Value} {L : List (List UInt8)} {k : Nat} {uo uh uc bo bh bc : Value} {G G2 : List Value} {y z : Sd} (h : OpS w wr n T v L k uo uh uc G y) (hn : w.heap.size + 1 < n) (hk : k < L.length)
    (hd : doesS y L[k] = some z) (bb : Below wr.heap.size wr w2) (hT : ∀ V, Agr wr.heap.size w2 V → StIn V uo uh uc G y → StIn V bo bh bc G2 z) (o : Obj) {c0 c1 c2 c3 c4 c5 c6 c7 : Value} (hc : #[c0, c1, c2, c3, c4, c5, c6, c7] = stC T uo uh uc) (v0 v1 v2 v3 v4 v5 v6 v7 : Value) (hv : #[v0, v1, v2, v3, v4, v5, v6, v7] = stC T bo bh bc) :
    OpS w (((((((((w2.alloc o).setCell ⟨n, 0, none⟩ v0).setCell ⟨n, 1, none⟩ v1).setCell ⟨n, 2, none⟩ v2).setCell ⟨n, 3, none⟩ v3).setCell ⟨n, 4, none⟩ v4).setCell ⟨n, 5, none⟩ v5).setCell ⟨n, 6, none⟩ v6).setCell ⟨n, 7, none⟩ v7) n T v L (k + 1) bo bh bc G2 z := by
  have hs := h.bs.lt
  have B1 := h.bel.trans (bb.mono h.bel.size)
  have B2 := B1.alloc B1.size o
  have X := (h.bs.below bb).alloc o
  rw [← hc] at X
  refine ⟨bel_put8 B2 (by omega) _ _ _ _ _ _ _ _, SBox.other8 ((h.br.below bb).alloc o) (by omega) _ _ _ _ _ _ _ _, ?_, ?_, fold_next hk h.fo hd, fun V hV => ?_⟩
  · rw [← hv]; exact X.put8 _ _ _ _ _ _ _ _
  · exact own_put8 ((owns_below h.row bb).alloc o) (by omega) _ _ _ _ _ _ _ _
  · have a1 : Agr wr.heap.size w2 V := ((Agr.below ((Below.refl _ _).alloc (Nat.le_refl _) o)).set8 (by omega) _ _ _ _ _ _ _ _).trans (hV.mono (by omega))
    have a2 : Agr (n + 1) wr V := (Agr.below bb).trans (((Agr.below ((Below.refl _ _).alloc (Nat.le_refl _) o)).set8 (by omega) _ _ _ _ _ _ _ _).trans hV)
    exact hT V a1 (h.st V a2)
theorem Agr.setS {n q : Nat} {W V : World} {c : Array Value} (h : Agr n W V) (hb : SBox V q 28 c) (j : Nat) (v : Value) : Agr n W (V.setCell ⟨q, j, none⟩ v) :=
  h.trans ⟨by simp [World.setCell], fun i _ _ hs => Below.heap_setCell V ⟨q, j, none⟩ v i (fun e => hs (by have e' : i = q := e; subst e'; exact ⟨c, _, hb⟩))⟩
theorem Agr.setS8 {n q : Nat} {W V : World} {c : Array Value} (h : Agr n W V) (hb : SBox V q 28 c) (v0 v1 v2 v3 v4 v5 v6 v7 : Value) :
    Agr n W ((((((((V.setCell ⟨q, 0, none⟩ v0).setCell ⟨q, 1, none⟩ v1).setCell ⟨q, 2, none⟩ v2).setCell ⟨q, 3, none⟩ v3).setCell ⟨q, 4, none⟩ v4).setCell ⟨q, 5, none⟩ v5).setCell ⟨q, 6, none⟩ v6).setCell ⟨q, 7, none⟩ v7) :=
  (((((((h.setS hb 0 v0).setS (hb.set 0 v0) 1 v1).setS ((hb.set 0 v0).set 1 v1) 2 v2).setS (((hb.set 0 v0).set 1 v1).set 2 v2) 3 v3).setS ((((hb.set 0 v0).set 1 v1).set 2 v2).set 3 v3) 4 v4).setS (((((hb.set 0 v0).set 1 v1).set 2 v2).set 3 v3).set 4 v4) 5 v5).setS ((((((hb.set 0 v0).set 1 v1).set 2 v2).set 3 v3).set 4 v4).set 5 v5) 6 v6).setS (((((((hb.set 0 v0).set 1 v1).set 2 v2).set 3 v3).set 4 v4).set 5 v5).set 6 v6) 7 v7
/-- The same, its steps in whatever order. -/
theorem OpS.nextG {w wr W wc : World} {n m : Nat} {T : Tp} {v : Value} {L : List (List UInt8)} {k : Nat} {uo uh uc bo bh bc : Value} {G G2 : List Value} {y z : Sd} (h : OpS w wr n T v L k uo uh uc G y) (hn : w.heap.size + 1 < n) (hm : n + 1 ≤ m) (hk : k < L.length)
    (hd : doesS y L[k] = some z) (B : Below w.heap.size w W) (R : SBox W (w.heap.size + 1) 28 zS17) {c0 c1 c2 c3 c4 c5 c6 c7 : Value} (X : SBox W n 28 #[c0, c1, c2, c3, c4, c5, c6, c7]) (O : W.ownsRow (n + 1) 9 1 v L.length (strV L))
    (A : Agr (n + 1) wr W) (A2 : Agr m wc W) (hT : ∀ V, Agr m wc V → StIn V uo uh uc G y → StIn V bo bh bc G2 z) (v0 v1 v2 v3 v4 v5 v6 v7 : Value) (hv : #[v0, v1, v2, v3, v4, v5, v6, v7] = stC T bo bh bc) :
    OpS w ((((((((W.setCell ⟨n, 0, none⟩ v0).setCell ⟨n, 1, none⟩ v1).setCell ⟨n, 2, none⟩ v2).setCell ⟨n, 3, none⟩ v3).setCell ⟨n, 4, none⟩ v4).setCell ⟨n, 5, none⟩ v5).setCell ⟨n, 6, none⟩ v6).setCell ⟨n, 7, none⟩ v7) n T v L (k + 1) bo bh bc G2 z := by
  refine ⟨bel_put8 B (by omega) _ _ _ _ _ _ _ _, SBox.other8 R (by omega) _ _ _ _ _ _ _ _, ?_, own_put8 O (by omega) _ _ _ _ _ _ _ _, fold_next hk h.fo hd, fun V hV => ?_⟩
  · rw [← hv]; exact X.put8 _ _ _ _ _ _ _ _
  · exact hT V ((A2.set8 (by omega) _ _ _ _ _ _ _ _).trans (hV.mono hm)) (h.st V ((A.set8 (by omega) _ _ _ _ _ _ _ _).trans hV))
theorem OpS.txt {w wr : World} {n : Nat} {T : Tp} {v : Value} {s : List UInt8} {k : Nat} {uo uh uc : Value} {G : List Value} {y : Sd} (h : OpS w wr n T v (Lm.recsL s) k uo uh uc G y) (hs : s.length ≤ 140737488351232) : IsTxt wr v (Lm.recsL s) :=
  IsTxt.own h.row (Nat.le_trans (Lm.recs_few s) hs) (fun t ht => Nat.le_trans ((Lm.scan_parts s).2.1 t ht) (by decide))
end Go.Proofs.Ytngllioidfffdaa
namespace Go.Proofs.Ytngllioidfffdaa
set_option maxRecDepth 100000
open Go.RowKit
set_option linter.unusedVariables false
theorem write_code (t : Tp) (rec : List UInt8) (h : (writeT t rec).2 = 0) : (writeT t rec).1.2.2.2.2 = false ∧ t.2.2.2.2 = false := by
  unfold writeT at h ⊢
  cases ho : t.2.2.2.2
  · rw [ho] at h
    rw [if_neg (by simp)] at h ⊢
    by_cases h1 : 65535 < rec.length
    · rw [if_pos h1] at h; simp at h
    · rw [if_neg h1] at h ⊢
      by_cases h2 : t.2.2.1 < ((Lm.lenL rec.length ++ rec).length : Int)
      · rw [if_pos h2] at h; simp at h
      · rw [if_neg h2] at h ⊢
        by_cases h3 : 0 ≤ t.2.2.2.1 ∧ t.2.2.2.1 < ((Lm.lenL rec.length ++ rec).length : Int)
        · rw [if_pos h3] at h; simp at h
        · rw [if_neg h3]
          exact ⟨ho, rfl⟩
  · rw [ho, if_pos rfl] at h; simp at h
theorem sync_code (t : Tp) (h : t.2.2.2.2 = false) : (syncT t).2 = 0 ∧ (syncT t).1.2.1 = [] ∧ (syncT t).1.1 = t.1 ++ t.2.1 := by
  unfold syncT
  rw [if_neg (by rw [h]; simp)]
  exact ⟨rfl, rfl, rfl⟩
theorem does_put (x : Sd) (e : Ev) (h : mayE e) (hl : x.1.length < 64) : doesR x (101 :: bytE e) = (true, (x.1 ++ [e], x.2)) := by
  have hb := take_byt e h []
  rw [List.append_nil, if_pos rfl] at hb
  refine doesR_yes ?_
  unfold doesS
  rw [if_neg (by intro hh; have := congrArg List.head? hh; simp at this)]
  simp only
  rw [if_neg (by simp), if_pos ⟨trivial, hl⟩, hb]
  rfl
theorem does_seal (x : Sd) (h : x.1 ≠ []) (hl : x.2.1.length < 8) : doesR x [115] = (true, ([], x.2.1 ++ [x.1], x.2.2)) := by
  refine doesR_yes ?_
  unfold doesS
  rw [if_pos rfl, if_neg (fun hh => hh.elim h (by omega))]
theorem does_note (x : Sd) (b : List UInt8) (hl : x.2.2.length < 16) : doesR x (99 :: b) = (true, (x.1, x.2.1, x.2.2 ++ [b])) := by
  refine doesR_yes ?_
  unfold doesS
  rw [if_neg (by intro hh; have := congrArg List.head? hh; simp at this)]
  simp only
  rw [if_pos ⟨trivial, hl⟩]
theorem put_form (s : Sto) (e : Ev) : ((putS s e).2 ≠ 0 ∧ (putS s e).1.2 = s.2) ∨ ((putS s e).2 = 0 ∧ (putS s e).1.2 = (s.2.1 ++ [e], s.2.2)) := by
  unfold putS
  by_cases h1 : mayE e
  · rw [if_neg (fun h => h h1)]
    by_cases h2 : 64 ≤ s.2.1.length
    · rw [if_pos h2]; exact .inl ⟨by simp, rfl⟩
    · rw [if_neg h2, writeS_no]
      unfold wrS
      by_cases h3 : (writeT s.1 (101 :: bytE e)).2 = 0
      · rw [if_pos h3, does_put s.2 e h1 (by omega)]; exact .inr ⟨rfl, rfl⟩
      · rw [if_neg h3]; exact .inl ⟨h3, rfl⟩
  · rw [if_pos h1]; exact .inl ⟨by simp, rfl⟩
theorem sync_form (s : Sto) (rec : List UInt8) : ((syS (wrS s rec).1 (wrS s rec).2).2 ≠ 0 ∧ (syS (wrS s rec).1 (wrS s rec).2).1.2 = s.2) ∨ ((syS (wrS s rec).1 (wrS s rec).2).2 = 0 ∧ (syS (wrS s rec).1 (wrS s rec).2).1.2 = (doesR s.2 rec).2 ∧ (syS (wrS s rec).1 (wrS s rec).2).1.1.2.1 = []) := by
  unfold wrS syS
  by_cases h3 : (writeT s.1 rec).2 = 0
  · rw [if_pos h3]
    simp only
    rw [if_pos trivial]
    have := sync_code _ (write_code s.1 rec h3).1
    exact .inr ⟨this.1, rfl, this.2.1⟩
  · rw [if_neg h3]
    simp only
    rw [if_neg h3]
    exact .inl ⟨h3, rfl⟩
theorem seal_form (s : Sto) : ((sealS s).2 ≠ 0 ∧ (sealS s).1.2 = s.2) ∨ ((sealS s).2 = 0 ∧ (sealS s).1.2 = ([], s.2.2.1 ++ [s.2.1], s.2.2.2) ∧ (sealS s).1.1.2.1 = []) := by
  unfold sealS
  by_cases h1 : s.2.1 = []
  · rw [if_pos h1]; exact .inl ⟨by simp, rfl⟩
  · rw [if_neg h1]
    by_cases h2 : 8 ≤ s.2.2.1.length
    · rw [if_pos h2]; exact .inl ⟨by simp, rfl⟩
    · rw [if_neg h2, writeS_yes]
      have := sync_form s [115]
      rw [does_seal s.2 h1 (by omega)] at this
      exact this
theorem note_form (s : Sto) (b : List UInt8) : ((noteS s b).2 ≠ 0 ∧ (noteS s b).1.2 = s.2) ∨ ((noteS s b).2 = 0 ∧ (noteS s b).1.2 = (s.2.1, s.2.2.1, s.2.2.2 ++ [b]) ∧ (noteS s b).1.1.2.1 = []) := by
  unfold noteS
  by_cases h2 : 16 ≤ s.2.2.2.length
  · rw [if_pos h2]; exact .inl ⟨by simp, rfl⟩
  · rw [if_neg h2, writeS_yes]
    have := sync_form s (99 :: b)
    rw [does_note s.2 b (by omega)] at this
    exact this
theorem take_snoc17 {α : Type} {sz : Nat} {enc : α → List Value} {W : World} {a : Option Addr} {n c : Nat} {L : List α} {e : α} (h : IsRec sz enc W (.slice a (n + 1) c) (L ++ [e])) (hl : L.length = n) : IsRec sz enc W (.slice a n c) L := by
  have h' : IsRec sz enc W (.slice a (L ++ [e]).length c) (L ++ [e]) := by rw [List.length_append, hl]; exact h
  subst hl
  have := h'.take L.length (by rw [List.length_append]; omega)
  rwa [List.take_left] at this
theorem txt_snoc17 {W : World} {a : Option Addr} {n c : Nat} {L : List (List UInt8)} {e : List UInt8} (h : IsTxt W (.slice a (n + 1) c) (L ++ [e])) (hl : L.length = n) : IsTxt W (.slice a n c) L := by
  have h' : IsTxt W (.slice a (L ++ [e]).length c) (L ++ [e]) := by rw [List.length_append, hl]; exact h
  subst hl
  have := h'.takes L.length (by rw [List.length_append]; omega)
  rwa [List.take_left] at this
theorem hs_take17 {W : World} {H' : List Value} {L : List (List Ev)} {e : List Ev} {a : Option Addr} {n c : Nat} (h : IsRec 1 hsV W (.slice a (n + 1) c) H') (ho : HsOf W H' (L ++ [e])) (hl : L.length = n) : IsRec 1 hsV W (.slice a n c) (H'.take n) ∧ HsOf W (H'.take n) L := by
  have hg : H'.length = n + 1 := by rw [ho.len, List.length_append, hl]; rfl
  have h' : IsRec 1 hsV W (.slice a H'.length c) H' := by rw [hg]; exact h
  refine ⟨h'.take n (by omega), ⟨by rw [List.length_take, hg, hl]; omega, fun i v x hv hx => ?_⟩⟩
  have hi : i < n := by
    have := (List.getElem?_eq_some_iff.1 hx).1
    omega
  rw [List.getElem?_take_of_lt hi] at hv
  exact ho.at_ i v x hv (by rw [List.getElem?_append_left (by omega)]; exact hx)
theorem hs_last17 {W : World} {H' : List Value} {L : List (List Ev)} {e : List Ev} {a : Option Addr} {n c : Nat} (h : IsRec 1 hsV W (.slice a (n + 1) c) H') (ho : HsOf W H' (L ++ [e])) (hl : L.length = n) :
    ∃ b off aa nn cc, a = some ⟨b, off, none⟩ ∧ W.cell? ⟨b, off + n, none⟩ = some (.slice aa nn cc) ∧ IsEvs W (.slice aa nn cc) e ∧ Shp17 (.slice aa nn cc) := by
  have hg : H'.length = n + 1 := by rw [ho.len, List.length_append, hl]; rfl
  obtain ⟨a', c', e0, _, _, _, HC⟩ := h.some_at
  simp only [Value.slice.injEq] at e0
  obtain ⟨rfl, _, rfl⟩ := e0
  obtain ⟨b, off, ha, _, hc⟩ := HC.out n (by omega)
  have g := hc 0 (H'[n]'(by omega)) rfl
  have q := ho.at_ n _ e (List.getElem?_eq_getElem (by omega)) (by rw [List.getElem?_append_right (by omega), hl, Nat.sub_self]; rfl)
  obtain ⟨aa, cc, e1, _⟩ := q.1.some_at
  rw [e1] at g q
  rw [Nat.mul_one, Nat.add_zero] at g
  exact ⟨b, off, aa, _, cc, ha, g, q.1, q.2⟩
theorem shp_some17 {a : Addr} {n c : Nat} : Shp17 (.slice (some a) n c) := .inr ⟨_, _, _, rfl⟩
end Go.Proofs.Ytngllioidfffdaa
