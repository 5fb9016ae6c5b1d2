/-
  StoreLasts: the store, what it had behind each act, and where they lie.
-/
import Derived.Test.YtngllioidfffdaaZLasts17
import Derived.Test.YtngllioidfffdaaZW17Does
import Derived.Test.YtngllioidfffdaaGV
namespace Go.Proofs.Ytngllioidfffdaa
set_option maxRecDepth 100000
open Go.RowKit
set_option linter.unusedVariables false
theorem size_set17 (W : World) (a : Addr) (v : Value) : (W.setCell a v).heap.size = W.heap.size := by simp [World.setCell]
abbrev StV := Tp × Value × Value × Value
def stoV (e : StV) : List Value := [.string ⟨e.1.1.toArray⟩, .string ⟨e.1.2.1.toArray⟩, .int .i64 e.1.2.2.1, .int .i64 e.1.2.2.2.1, .bool e.1.2.2.2.2, e.2.1, e.2.2.1, e.2.2.2]
theorem stoV_len (e : StV) : (stoV e).length = 8 := rfl
theorem Agr.grown {n : Nat} {W V : World} {row : Option Nat} (g : W.grownBy V row) (hr : ∀ r, row = some r → Sto17 W r) : Agr n W V :=
  ⟨g.size, fun k _ hk hs => g.block k hk (fun e => hs (hr k e.symm))⟩
theorem own_sto17 {W : World} {B sz n : Nat} {v : Value} {xs : List Value} (h : W.ownsRow B 28 sz v n xs) : ∀ r, v.ownBlock = some r → Sto17 W r := by
  intro r e
  rcases h.2 with ⟨rfl, _⟩ | ⟨g, cap, cur, rfl, _, hg, _⟩
  · simp [Value.ownBlock] at e
  · obtain rfl : g = r := by simpa [Value.ownBlock] using e
    exact ⟨_, _, hg⟩
theorem SBox.far17 {W W' V : World} {b t : Nat} {c : Array Value} {v : Value} {B e k n : Nat} {xs : List Value} (h : SBox W b t c) (g : W.grownBy W' v.ownBlock) (hr : V.ownsRow B e k v n xs) (hb : V.heap.size ≤ b) : SBox W' b t c :=
  (g.block b h.lt (fun e => by have := (hr.lt b e.symm).2; omega)).trans h
theorem news8_17 {w : World} {B t : Nat} {cs : Array Value} (hb : SBox w B t cs) : ∀ j u, cs.toList[j]? = some u → w.cell? ((⟨B, 0, none⟩ : Addr).add j) = some u := news17 hb
/-- The store in block b6, and the row of what it had. -/
structure LsS (w wr : World) (b6 : Nat) (T : Tp) (vo vh vc : Value) (x : Sd) (av : Value) (HV : List StV) (HL : List Sd) : Prop where
  bel : Below w.heap.size w wr
  bx : SBox wr b6 28 (stC T vo vh vc)
  row : wr.ownsRow (b6 + 1) 28 8 av HV.length (recV stoV HV)
  len : HV.length = HL.length
  st : ∃ G, ∀ V, Agr w.heap.size wr V → StIn V vo vh vc G x
  els : ∀ (i : Nat) (e : StV) (y : Sd), HV[i]? = some e → HL[i]? = some y → ∃ G, ∀ V, Agr w.heap.size wr V → StIn V e.2.1 e.2.2.1 e.2.2.2 G y
section
variable {w wr W : World} {b6 : Nat} {T : Tp} {vo vh vc : Value} {x : Sd} {av : Value} {HV : List StV} {HL : List Sd}
theorem LsS.below (h : LsS w wr b6 T vo vh vc x av HV HL) (b : Below wr.heap.size wr W) : LsS w W b6 T vo vh vc x av HV HL := by
  obtain ⟨G, hG⟩ := h.st
  refine ⟨h.bel.trans (b.mono h.bel.size), h.bx.below b, owns_below h.row b, h.len, ⟨G, fun V hV => hG V ((Agr.below b).trans hV)⟩, fun i e y h1 h2 => ?_⟩
  obtain ⟨G2, hG2⟩ := h.els i e y h1 h2
  exact ⟨G2, fun V hV => hG2 V ((Agr.below b).trans hV)⟩
/-- Another one stored in its block. -/
theorem LsS.put (h : LsS w wr b6 T vo vh vc x av HV HL) (hb : w.heap.size ≤ b6) {T' : Tp} {uo uh uc : Value} {y : Sd} (hT : ∃ G, ∀ V, Agr w.heap.size wr V → StIn V uo uh uc G y) {c0 c1 c2 c3 c4 c5 c6 c7 : Value} (hc : #[c0, c1, c2, c3, c4, c5, c6, c7] = stC T vo vh vc) (v0 v1 v2 v3 v4 v5 v6 v7 : Value) (hv : #[v0, v1, v2, v3, v4, v5, v6, v7] = stC T' uo uh uc) :
    LsS w ((((((((wr.setCell ⟨b6, 0, none⟩ v0).setCell ⟨b6, 1, none⟩ v1).setCell ⟨b6, 2, none⟩ v2).setCell ⟨b6, 3, none⟩ v3).setCell ⟨b6, 4, none⟩ v4).setCell ⟨b6, 5, none⟩ v5).setCell ⟨b6, 6, none⟩ v6).setCell ⟨b6, 7, none⟩ v7) b6 T' uo uh uc y av HV HL := by
  have X := h.bx
  rw [← hc] at X
  have A : Agr w.heap.size wr _ := (Agr.refl _ wr).setS8 X v0 v1 v2 v3 v4 v5 v6 v7
  obtain ⟨G, hG⟩ := hT
  refine ⟨bel_put8 h.bel hb _ _ _ _ _ _ _ _, by rw [← hv]; exact X.put8 _ _ _ _ _ _ _ _, own_put8 h.row (by omega) _ _ _ _ _ _ _ _, h.len, ⟨G, fun V hV => hG V (A.trans hV)⟩, fun i e z h1 h2 => ?_⟩
  obtain ⟨G2, hG2⟩ := h.els i e z h1 h2
  exact ⟨G2, fun V hV => hG2 V (A.trans hV)⟩
/-- One more behind. -/
theorem LsS.push (h : LsS w wr b6 T vo vh vc x av HV HL) (hb : w.heap.size ≤ b6) {v' : Value} {e : StV} {y : Sd} (g : wr.grownBy W av.ownBlock) (hr : W.ownsRow (b6 + 1) 28 8 v' (HV.length + 1) (recV stoV HV ++ stoV e)) (hT : ∃ G, ∀ V, Agr w.heap.size wr V → StIn V e.2.1 e.2.2.1 e.2.2.2 G y) :
    LsS w W b6 T vo vh vc x v' (HV ++ [e]) (HL ++ [y]) := by
  have A : Agr w.heap.size wr W := Agr.grown g (own_sto17 h.row)
  obtain ⟨G, hG⟩ := h.st
  refine ⟨h.bel.grown g h.bel.size (fun j ej => by have := (h.row.lt j ej).1; omega), (g.block b6 h.bx.lt (fun e => by have := (h.row.lt b6 e.symm).1; omega)).trans h.bx, by rw [recV_snoc, List.length_append]; exact hr, by simp [h.len], ⟨G, fun V hV => hG V (A.trans hV)⟩, fun i e' z h1 h2 => ?_⟩
  rcases Nat.lt_or_ge i HV.length with hi | hi
  · rw [List.getElem?_append_left hi] at h1
    rw [List.getElem?_append_left (by rw [← h.len]; exact hi)] at h2
    obtain ⟨G2, hG2⟩ := h.els i e' z h1 h2
    exact ⟨G2, fun V hV => hG2 V (A.trans hV)⟩
  · rw [List.getElem?_append_right hi] at h1
    rw [List.getElem?_append_right (by rw [← h.len]; exact hi), ← h.len] at h2
    have hz : i - HV.length = 0 := by have := (List.getElem?_eq_some_iff.1 h1).1; simp at this; omega
    rw [hz] at h1 h2
    simp only [List.getElem?_cons_zero, Option.some.injEq] at h1 h2
    subst h1 h2
    obtain ⟨G2, hG2⟩ := hT
    exact ⟨G2, fun V hV => hG2 V (A.trans hV)⟩
/-- Begun anew: the row is of this one alone. -/
theorem LsS.anew (h : LsS w wr b6 T vo vh vc x av HV HL) {c0 c1 c2 c3 c4 c5 c6 c7 : Value} (hc : #[c0, c1, c2, c3, c4, c5, c6, c7] = stC T vo vh vc) :
    LsS w (wr.alloc (.cells #[c0, c1, c2, c3, c4, c5, c6, c7] 28)) b6 T vo vh vc x (.slice (some ⟨wr.heap.size, 0, none⟩) 1 1) [(T, vo, vh, vc)] [x] := by
  have h1 := h.below ((Below.refl _ wr).alloc (Nat.le_refl _) (.cells #[c0, c1, c2, c3, c4, c5, c6, c7] 28))
  have hb := h.bx.lt
  refine ⟨h1.bel, h1.bx, ?_, rfl, h1.st, fun i e y g1 g2 => ?_⟩
  · rw [hc]
    have := owns_low (own_one17 wr 28 8 (stoV (T, vo, vh, vc)) rfl) (B' := b6 + 1) (by omega)
    exact this
  · have hz : i = 0 := by have := (List.getElem?_eq_some_iff.1 g1).1; simp at this; omega
    subst hz
    simp only [List.getElem?_cons_zero, Option.some.injEq] at g1 g2
    subst g1 g2
    exact h1.st
/-- The cells of one that it had. -/
theorem LsS.at_ (h : LsS w wr b6 T vo vh vc x av HV HL) (hn : HV.length ≤ 140737488351232) (j : Nat) (hj : j < HV.length) {a : Option Addr} {n c : Nat} (hv : av = .slice a n c) : ∃ b off, a = some ⟨b, off, none⟩ ∧ ∀ i u, (stoV HV[j])[i]? = some u → wr.cell? ⟨b, off + j * 8 + i, none⟩ = some u := by
  obtain ⟨a', c', e, _, _, _, HC⟩ := (IsRec.own stoV_len (by omega) h.row hn).some_at
  rw [hv] at e
  simp only [Value.slice.injEq] at e
  obtain ⟨rfl, _, rfl⟩ := e
  obtain ⟨b, off, ha, _, hc⟩ := HC.out j hj
  exact ⟨b, off, ha, hc⟩
end
end Go.Proofs.Ytngllioidfffdaa
