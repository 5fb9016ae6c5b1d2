/-
  What a store has, what records do to it, and the calls of a store: lists. Rows of rows of events.
  A row appended to a row of the walk's own, of whatever elements: of no program.
  Rows of rows of events, and what a store's three slices hold; a row appended to a row of the walk's own: of no program but the types.
  Cells of one block stored, one behind the other: of no program.
  A store in a block of its own (eight cells): put, kept, answered; rows kept while blocks below them are stored to.
  What a record does: as a contract says it.
-/
import Derived.Test.YtngllioidfffdaaGT
import Derived.Test.YtngllioidfffdaaGD
import Derived.Test.YtngllioidfffdaaGB
import Derived.Laws.AppendOwnNone
import Derived.Test.YtngllioidfffdaaGU
import Derived.Test.YtngllioidfffdaaGC
namespace Go.Proofs.Ytngllioidfffdaa
set_option maxRecDepth 100000
open Go.RowKit
set_option linter.unusedVariables false
/-- What is open, what is sealed, the certificates. -/
abbrev Sd := List Ev × List (List Ev) × List (List UInt8)
def doesS (x : Sd) (rec : List UInt8) : Option Sd :=
  if rec = [115] then (if x.1 = [] ∨ 8 ≤ x.2.1.length then none else some ([], x.2.1 ++ [x.1], x.2.2))
  else match rec with
  | [] => none
  | c :: b => if c = 99 ∧ x.2.2.length < 16 then some (x.1, x.2.1, x.2.2 ++ [b]) else if c = 101 ∧ x.1.length < 64 then (takeE b).map (fun e => (x.1 ++ [e], x.2.1, x.2.2)) else none
def foldS : Sd → List (List UInt8) → Option Sd
  | x, [] => some x
  | x, r :: l => match doesS x r with
    | none => none
    | some y => foldS y l
abbrev Sto := Tp × Sd
abbrev zeroT : Tp := ([], [], 0, 0, false)
abbrev zeroS : Sto := (zeroT, ([], [], []))
def newS (n : Int) : Sto × Int := ((( newT n).1, ([], [], [])), (newT n).2)
def openS (t : Tp) : Sto × Int := if t.2.2.2.2 = true then (zeroS, 6) else match foldS ([], [], []) (readT t) with
  | none => (zeroS, 3)
  | some x => ((t, x), 0)
def writeS (s : Sto) (rec : List UInt8) (sync : Bool) : Sto × Int :=
  if (writeT s.1 rec).2 ≠ 0 then (((writeT s.1 rec).1, s.2), (writeT s.1 rec).2)
  else if sync = true then (((syncT (writeT s.1 rec).1).1, (doesS s.2 rec).getD s.2), (syncT (writeT s.1 rec).1).2)
  else (((writeT s.1 rec).1, (doesS s.2 rec).getD s.2), 0)
def putS (s : Sto) (x : Ev) : Sto × Int := if ¬ mayE x then (s, 1) else if 64 ≤ s.2.1.length then (s, 5) else writeS s (101 :: bytE x) false
def sealS (s : Sto) : Sto × Int := if s.2.1 = [] then (s, 7) else if 8 ≤ s.2.2.1.length then (s, 5) else writeS s [115] true
def noteS (s : Sto) (body : List UInt8) : Sto × Int := if 16 ≤ s.2.2.2.length then (s, 5) else writeS s (99 :: body) true
def armS (s : Sto) (n : Int) : Sto := (armT s.1 n, s.2)
def crashS (s : Sto) (n : Int) : Sto × Int := openS (crashT s.1 n)
end Go.Proofs.Ytngllioidfffdaa
namespace Go.Proofs.Ytngllioidfffdaa
set_option maxRecDepth 100000
open Go.RowKit
set_option linter.unusedVariables false
/-- A slice is of one of two shapes. -/
def Shp17 (v : Value) : Prop := v = .slice none 0 0 ∨ ∃ ad n c, v = .slice (some ad) n c
theorem shp_own {W : World} {B e k n : Nat} {v : Value} {xs : List Value} (h : W.ownsRow B e k v n xs) : Shp17 v := by
  rcases h.2 with ⟨rfl, _⟩ | ⟨g, cap, cur, rfl, _⟩
  · exact .inl rfl
  · exact .inr ⟨_, _, _, rfl⟩
/-- A row that may be handed to append: its cells. -/
def Src17 (W : World) (sz : Nat) (v : Value) (n : Nat) (xs : List Value) : Prop := (v = .slice none 0 0 ∧ n = 0 ∧ xs = []) ∨ ∃ ad c, v = .slice (some ad) n c ∧ xs.length = n * sz ∧ ∀ j u, xs[j]? = some u → W.cell? (ad.add j) = some u
theorem Src17.below {W W' : World} {sz : Nat} {v : Value} {n : Nat} {xs : List Value} (h : Src17 W sz v n xs) (b : Below W.heap.size W W') : Src17 W' sz v n xs := by
  rcases h with h | ⟨ad, c, hv, hl, hc⟩
  · exact .inl h
  · exact .inr ⟨ad, c, hv, hl, fun j u hu => cell_bel b (hc j u hu)⟩
theorem src_rec {α : Type} {sz : Nat} {enc : α → List Value} (hz : ∀ x, (enc x).length = sz) (hs : 0 < sz) {W : World} {v : Value} {L : List α} (h : IsRec sz enc W v L) (hp : Shp17 v) : Src17 W sz v L.length (recV enc L) := by
  rcases hp with rfl | ⟨ad, n, c, rfl⟩
  · obtain ⟨a, n, c, hv, h1, _⟩ := h
    obtain ⟨rfl, rfl, rfl⟩ : none = a ∧ 0 = n ∧ 0 = c := by simpa using hv
    obtain rfl : L = [] := List.length_eq_zero_iff.1 h1
    exact .inl ⟨rfl, rfl, rfl⟩
  · have hn : n = L.length := by
      obtain ⟨a, n', c', hv, h1, _⟩ := h
      obtain ⟨_, rfl, _⟩ : some ad = a ∧ n = n' ∧ c = c' := by simpa using hv
      exact h1.symm
    subst hn
    exact .inr ⟨ad, c, rfl, by rw [recV_length hz], IsRec.src hz hs h (Below.refl _ W)⟩
theorem src_own {W : World} {B e sz n : Nat} {v : Value} {xs : List Value} (h : W.ownsRow B e sz v n xs) : Src17 W sz v n xs := by
  obtain ⟨h1, h2⟩ := h
  rcases h2 with ⟨rfl, rfl⟩ | ⟨g, cap, cur, rfl, hbg, hg, hnc, hcm, hcs, htake⟩
  · exact .inl ⟨rfl, rfl, List.length_eq_zero_iff.1 (by rw [h1]; exact Nat.zero_mul _)⟩
  · refine .inr ⟨_, _, rfl, h1, fun j u hu => ?_⟩
    have hj := (List.getElem?_eq_some_iff.1 hu).1
    have e : (⟨g, 0, none⟩ : Addr).add j = ⟨g, j, none⟩ := by unfold Addr.add; by_cases hj0 : j = 0 <;> simp [hj0]
    rw [e, Lib.cell_of_heap hg, ← Array.getElem?_toList, ← hu, ← htake, List.getElem?_take_of_lt (by omega)]
/-- A row appended to a row of the walk's own, of whatever elements. -/
theorem app17 {w : World} {ops : Array Oper} {rest : List Oper} {o : Oper} {a : Act} {Q : Exit → Act → World → Prop} (hgd : o.guard = none) (s x : Operand) (t e sz bytes : Nat) (z : Value)
    (ho : o.op = .call { callee := .builtin .append, args := #[s, x], argTypes := #[t, t] }) (ht : Try.prog.underlying t = some (.slice e)) (hinfo : (Try.prog.info? e).map (fun i => (i.zero, i.size, i.bytes)) = some (some z, sz, bytes)) (hzs : z.cells.size = sz) (hsz : 0 < sz) (hby : bytes ≤ 128)
    (base : Nat) (v : Value) (n : Nat) (xs : List Value) (hs : a.eval s = v) (hown : w.ownsRow base e sz v n xs) (v2 : Value) (m : Nat) (ys : List Value) (hx : a.eval x = v2) (hr : Src17 w sz v2 m ys) (h1 : ∀ u ∈ ys, u.oneCell' = true) (hb : n + m ≤ 1099511627776) (hbase : base ≤ w.heap.size)
    (h : ∀ v' w', w'.ownsRow base e sz v' (n + m) (xs ++ ys) → w.grownBy w' v.ownBlock → wpList Try.prog ops Q rest (a.put o.dst v') w') : wpList Try.prog ops Q (o :: rest) a w := by
  obtain ⟨i0, hi, hz0, hz1, hz2⟩ := info_parts hinfo
  have hbb : (n + m) * bytes ≤ 140737488355328 := Nat.le_trans (Nat.mul_le_mul_left _ hby) (by omega)
  rcases hr with ⟨e1, rfl, rfl⟩ | ⟨ad, c, hv, hl, hc⟩
  · refine wpList_append_own_none hgd s x t ho base e i0 sz ht hi v n xs hs hown (hx.trans e1) ?_
    exact h v w (by rw [List.append_nil]; exact hown) (World.grownBy.refl w _)
  · rw [hv] at hx
    exact wpList_append_own w hgd s x t ho base e i0 z sz bytes ht hi hz0 hz1 hz2 hzs hsz v n xs hs hown ad m c ys hx hl hc h1 (by unfold maxLen; omega) hbb hbase fun v' w' h2 h3 _ => h v' w' h2 h3
end Go.Proofs.Ytngllioidfffdaa
namespace Go.Proofs.Ytngllioidfffdaa
set_option maxRecDepth 100000
open Go.RowKit
set_option linter.unusedVariables false
def hsV (v : Value) : List Value := [v]
theorem hsV_len (v : Value) : (hsV v).length = 1 := rfl
structure HsOf (W : World) (H' : List Value) (H : List (List Ev)) : Prop where
  len : H'.length = H.length
  at_ : ∀ (i : Nat) v h, H'[i]? = some v → H[i]? = some h → IsEvs W v h ∧ Shp17 v
def IsHs (W : World) (v : Value) (H : List (List Ev)) : Prop := ∃ H', IsRec 1 hsV W v H' ∧ HsOf W H' H
theorem HsOf.below {W W' : World} {H' : List Value} {H : List (List Ev)} (h : HsOf W H' H) (b : Below W.heap.size W W') : HsOf W' H' H := ⟨h.len, fun i v x hv hx => ⟨(h.at_ i v x hv hx).1.below b, (h.at_ i v x hv hx).2⟩⟩
theorem IsHs.below {W W' : World} {v : Value} {H : List (List Ev)} (h : IsHs W v H) (b : Below W.heap.size W W') : IsHs W' v H := by
  obtain ⟨H', h1, h2⟩ := h
  exact ⟨H', h1.below b, h2.below b⟩
theorem HsOf.snoc {W : World} {H' : List Value} {H : List (List Ev)} (h : HsOf W H' H) {v : Value} {x : List Ev} (hv : IsEvs W v x) (hs : Shp17 v) : HsOf W (H' ++ [v]) (H ++ [x]) := by
  refine ⟨by simp [h.len], fun i u y hu hy => ?_⟩
  rcases Nat.lt_or_ge i H'.length with hi | hi
  · rw [List.getElem?_append_left hi] at hu
    rw [List.getElem?_append_left (by rw [← h.len]; exact hi)] at hy
    exact h.at_ i u y hu hy
  · rw [List.getElem?_append_right hi] at hu
    rw [List.getElem?_append_right (by rw [← h.len]; exact hi), ← h.len] at hy
    obtain ⟨e0, e1⟩ := List.getElem?_eq_some_iff.1 hu
    obtain ⟨e2, e3⟩ := List.getElem?_eq_some_iff.1 hy
    simp only [List.length_singleton] at e0 e2
    have hz : i - H'.length = 0 := by omega
    simp only [hz, List.getElem_cons_zero] at e1 e3
    subst e1 e3
    exact ⟨hv, hs⟩
/-- What a store's three slices hold; H': the slices of what is sealed, as they lie. -/
structure StIn (W : World) (vo vh vc : Value) (H' : List Value) (x : Sd) : Prop where
  op : IsEvs W vo x.1
  hi : IsRec 1 hsV W vh H'
  ho : HsOf W H' x.2.1
  ce : IsTxt W vc x.2.2
  so : Shp17 vo
  sh : Shp17 vh
  sc : Shp17 vc
theorem StIn.below {W W' : World} {vo vh vc : Value} {H' : List Value} {x : Sd} (h : StIn W vo vh vc H' x) (b : Below W.heap.size W W') : StIn W' vo vh vc H' x := ⟨h.op.below b, h.hi.below b, h.ho.below b, h.ce.below b, h.so, h.sh, h.sc⟩
theorem StIn.zero (W : World) : StIn W (.slice none 0 0) (.slice none 0 0) (.slice none 0 0) [] ([], [], []) :=
  ⟨IsRec.nil _ _ _, IsRec.nil _ _ _, ⟨rfl, fun i v h hv _ => by simp at hv⟩, IsTxt.nil W, .inl rfl, .inl rfl, .inl rfl⟩
/-- All that lay lies on. -/
def Same17 (W V : World) : Prop := W.heap.size ≤ V.heap.size ∧ ∀ k, k < W.heap.size → V.heap[k]? = W.heap[k]?
theorem cell_same17 {W V : World} (h : Same17 W V) {a : Addr} (ha : a.block < W.heap.size) : V.cell? a = W.cell? a := World.cell?_of_block (h.2 a.block ha)
theorem rec_same17 {α : Type} {sz : Nat} {enc : α → List Value} {W V : World} {v : Value} {L : List α} (h : IsRec sz enc W v L) (hb : Same17 W V) : IsRec sz enc V v L := by
  obtain ⟨a, n, cap, hv, h1, h2, h3, h4, h6⟩ := h
  refine ⟨a, n, cap, hv, h1, h2, h3, h4, ?_⟩
  rcases h6 with h6 | ⟨b, off, ha, hlt, hc⟩
  · exact .inl h6
  · refine .inr ⟨b, off, ha, Nat.lt_of_lt_of_le hlt hb.1, fun i hi j u hu => ?_⟩
    rw [cell_same17 hb (a := ⟨b, off + i * sz + j, none⟩) hlt]
    exact hc i hi j u hu
theorem txt_same17 {W V : World} {v : Value} {L : List (List UInt8)} (h : IsTxt W v L) (hb : Same17 W V) : IsTxt V v L := by
  obtain ⟨a, n, cap, hv, h1, h2, h3, h4, h5, h6⟩ := h
  refine ⟨a, n, cap, hv, h1, h2, h3, h4, h5, ?_⟩
  rcases h6 with h6 | ⟨b, off, ha, hlt, hc⟩
  · exact .inl h6
  · refine .inr ⟨b, off, ha, Nat.lt_of_lt_of_le hlt hb.1, fun i hi => ?_⟩
    rw [cell_same17 hb (a := ⟨b, off + i, none⟩) hlt]
    exact hc i hi
theorem StIn.same {W V : World} {vo vh vc : Value} {H' : List Value} {x : Sd} (h : StIn W vo vh vc H' x) (b : Same17 W V) : StIn V vo vh vc H' x :=
  ⟨rec_same17 h.op b, rec_same17 h.hi b, ⟨h.ho.len, fun i v x hv hx => ⟨rec_same17 (h.ho.at_ i v x hv hx).1 b, (h.ho.at_ i v x hv hx).2⟩⟩, txt_same17 h.ce b, h.so, h.sh, h.sc⟩
/-- A block of a store's cells. -/
def Sto17 (W : World) (k : Nat) : Prop := ∃ c f, W.heap[k]? = some (.cells c 28 f)
/-- What lies at or above n lies on, but for blocks of stores. -/
def Agr (n : Nat) (W V : World) : Prop := W.heap.size ≤ V.heap.size ∧ ∀ k, n ≤ k → k < W.heap.size → ¬ Sto17 W k → V.heap[k]? = W.heap[k]?
/-- All that lay lies on, but for blocks of stores at or above n. -/
def Kin (n : Nat) (W V : World) : Prop := W.heap.size ≤ V.heap.size ∧ ∀ k, k < W.heap.size → (k < n ∨ ¬ Sto17 W k) → V.heap[k]? = W.heap[k]?
theorem Agr.refl (n : Nat) (W : World) : Agr n W W := ⟨Nat.le_refl _, fun _ _ _ _ => rfl⟩
theorem Agr.trans {n : Nat} {W V U : World} (h : Agr n W V) (g : Agr n V U) : Agr n W U :=
  ⟨Nat.le_trans h.1 g.1, fun k h1 h2 h3 => by
    have e := h.2 k h1 h2 h3
    rw [← e]
    exact g.2 k h1 (Nat.lt_of_lt_of_le h2 h.1) (fun ⟨c, f, hc⟩ => h3 ⟨c, f, by rw [← e]; exact hc⟩)⟩
theorem Agr.mono {n m : Nat} {W V : World} (h : Agr n W V) (hm : n ≤ m) : Agr m W V := ⟨h.1, fun k h1 => h.2 k (Nat.le_trans hm h1)⟩
theorem Agr.below {n : Nat} {W V : World} (h : Below W.heap.size W V) : Agr n W V := ⟨h.size, fun k _ hk _ => h.block k hk⟩
theorem Agr.set {n k : Nat} {W V : World} (h : Agr n W V) (hk : k < n) (j : Nat) (v : Value) : Agr n W (V.setCell ⟨k, j, none⟩ v) :=
  h.trans ⟨by simp [World.setCell], fun i hi _ _ => Below.heap_setCell V ⟨k, j, none⟩ v i (by show i ≠ k; omega)⟩
theorem Agr.set8 {n k : Nat} {W V : World} (h : Agr n W V) (hk : k < n) (v0 v1 v2 v3 v4 v5 v6 v7 : Value) :
    Agr n W ((((((((V.setCell ⟨k, 0, none⟩ v0).setCell ⟨k, 1, none⟩ v1).setCell ⟨k, 2, none⟩ v2).setCell ⟨k, 3, none⟩ v3).setCell ⟨k, 4, none⟩ v4).setCell ⟨k, 5, none⟩ v5).setCell ⟨k, 6, none⟩ v6).setCell ⟨k, 7, none⟩ v7) :=
  (((((((h.set hk 0 v0).set hk 1 v1).set hk 2 v2).set hk 3 v3).set hk 4 v4).set hk 5 v5).set hk 6 v6).set hk 7 v7
theorem Agr.set5 {n k : Nat} {W V : World} (h : Agr n W V) (hk : k < n) (v0 v1 v2 v3 v4 : Value) :
    Agr n W (((((V.setCell ⟨k, 0, none⟩ v0).setCell ⟨k, 1, none⟩ v1).setCell ⟨k, 2, none⟩ v2).setCell ⟨k, 3, none⟩ v3).setCell ⟨k, 4, none⟩ v4) :=
  ((((h.set hk 0 v0).set hk 1 v1).set hk 2 v2).set hk 3 v3).set hk 4 v4
theorem owns_agr {W V : World} {n B e sz m : Nat} {v : Value} {xs : List Value} (h : W.ownsRow B e sz v m xs) (hb : n ≤ B) (he : e ≠ 28) (ha : Agr n W V) : V.ownsRow B e sz v m xs := by
  obtain ⟨h1, h2⟩ := h
  refine ⟨h1, ?_⟩
  rcases h2 with h2 | ⟨g, cap, cur, hv, hbg, hg, r⟩
  · exact .inl h2
  · refine .inr ⟨g, cap, cur, hv, hbg, ?_, r⟩
    rw [ha.2 g (Nat.le_trans hb hbg) (Array.getElem?_eq_some_iff.1 hg).1 (fun ⟨c, f, hc⟩ => by rw [hg] at hc; simp at hc; exact he hc.2.1)]
    exact hg
theorem Kin.refl (n : Nat) (W : World) : Kin n W W := ⟨Nat.le_refl _, fun _ _ _ => rfl⟩
theorem Kin.trans {n : Nat} {W V U : World} (h : Kin n W V) (g : Kin n V U) : Kin n W U :=
  ⟨Nat.le_trans h.1 g.1, fun k h2 h3 => by
    have e := h.2 k h2 h3
    rw [← e]
    exact g.2 k (Nat.lt_of_lt_of_le h2 h.1) (h3.imp id (fun h4 ⟨c, f, hc⟩ => h4 ⟨c, f, by rw [← e]; exact hc⟩))⟩
theorem Kin.below {n : Nat} {W V : World} (h : Below W.heap.size W V) : Kin n W V := ⟨h.size, fun k hk _ => h.block k hk⟩
theorem Kin.agr {n m : Nat} {W V : World} (h : Kin n W V) : Agr m W V := ⟨h.1, fun k _ h2 h3 => h.2 k h2 (.inr h3)⟩
theorem Kin.set {n k : Nat} {W : World} {c : Array Value} (hk : n ≤ k) (hb : SBox W k 28 c) (j : Nat) (v : Value) : Kin n W (W.setCell ⟨k, j, none⟩ v) :=
  ⟨by simp [World.setCell], fun i _ hi => Below.heap_setCell W ⟨k, j, none⟩ v i (fun e => by
    have e' : i = k := e
    subst e'
    rcases hi with hi | hi
    · omega
    · exact hi ⟨c, _, hb⟩)⟩
/-- What a store's slices hold, whatever is stored in blocks of stores at or above n. -/
def StOk (n : Nat) (W : World) (vo vh vc : Value) (H' : List Value) (x : Sd) : Prop := ∀ V, Kin n W V → StIn V vo vh vc H' x
theorem StOk.in_ {n : Nat} {W : World} {vo vh vc : Value} {H' : List Value} {x : Sd} (h : StOk n W vo vh vc H' x) : StIn W vo vh vc H' x := h W (Kin.refl n W)
theorem StOk.new {W : World} {vo vh vc : Value} {H' : List Value} {x : Sd} (h : StIn W vo vh vc H' x) : StOk W.heap.size W vo vh vc H' x := fun V hV => h.same ⟨hV.1, fun k hk => hV.2 k hk (.inl hk)⟩
theorem StOk.kin {n : Nat} {W V : World} {vo vh vc : Value} {H' : List Value} {x : Sd} (h : StOk n W vo vh vc H' x) (g : Kin n W V) : StOk n V vo vh vc H' x := fun U hU => h U (g.trans hU)
theorem StOk.below {n : Nat} {W V : World} {vo vh vc : Value} {H' : List Value} {x : Sd} (h : StOk n W vo vh vc H' x) (g : Below W.heap.size W V) : StOk n V vo vh vc H' x := h.kin (Kin.below g)
/-- What a call makes of a store. -/
theorem StOk.call {n : Nat} {W V : World} {vo vh vc uo uh uc : Value} {H' G' : List Value} {x y : Sd} (h : StOk n W vo vh vc H' x) (b : Below W.heap.size W V) (g : ∀ U, Agr W.heap.size V U → StIn U vo vh vc H' x → StIn U uo uh uc G' y) : StOk n V uo uh uc G' y :=
  fun U hU => g U hU.agr ((h.below b) U hU)
end Go.Proofs.Ytngllioidfffdaa
namespace Go.Proofs.Ytngllioidfffdaa
set_option maxRecDepth 100000
open Go.RowKit
set_option linter.unusedVariables false
theorem grown_set14 (w : World) (b k : Nat) (u : Value) : w.grownBy (w.setCell ⟨b, k, none⟩ u) (some b) :=
  ⟨rfl, rfl, rfl, by simp [World.setCell], fun i hi hne => Below.heap_setCell w ⟨b, k, none⟩ u i (fun e => hne (by rw [e]))⟩
/-- Cells of one block stored, one behind the other. -/
def putL : World → Nat → Nat → List Value → World
  | W, _, _, [] => W
  | W, B, k, v :: l => putL (W.setCell ⟨B, k, none⟩ v) B (k + 1) l
theorem SBox.putL {B t : Nat} : ∀ (vs pre rest : List Value) (W : World), rest.length = vs.length → SBox W B t (pre ++ rest).toArray → SBox (putL W B pre.length vs) B t (pre ++ vs).toArray
  | [], pre, [], W, _, h => h
  | [], pre, x :: rest, W, hl, h => by simp at hl
  | v :: vs, pre, [], W, hl, h => by simp at hl
  | v :: vs, pre, x :: rest, W, hl, h => by
    have h1 := h.set pre.length v
    have e : ((pre ++ x :: rest).toArray).setIfInBounds pre.length v = ((pre ++ [v]) ++ rest).toArray := by
      apply Array.ext'
      simp
    rw [e] at h1
    have h2 := SBox.putL vs (pre ++ [v]) rest (W.setCell ⟨B, pre.length, none⟩ v) (by simpa using hl) h1
    rw [List.length_append, List.append_assoc] at h2
    exact h2
theorem grown_putL {w : World} {B pb : Nat} : ∀ (vs : List Value) (k : Nat) (W : World), w.grownBy W (some pb) → w.heap.size ≤ B → w.grownBy (putL W B k vs) (some pb)
  | [], k, W, h, _ => h
  | v :: vs, k, W, h, hB => grown_putL vs (k + 1) _ ⟨h.os, h.tape, h.output, by simpa [World.setCell] using h.size, fun i hi hne => (Below.heap_setCell W ⟨B, k, none⟩ v i (by show i ≠ B; omega)).trans (h.block i hi hne)⟩ hB
theorem kept_putL {B : Nat} : ∀ (vs : List Value) (k : Nat) (W : World), W.grownBy (putL W B k vs) (some B)
  | [], k, W => ⟨rfl, rfl, rfl, Nat.le_refl _, fun i hi hne => rfl⟩
  | v :: vs, k, W => (grown_set14 W B k v).trans (kept_putL vs (k + 1) _)
end Go.Proofs.Ytngllioidfffdaa
namespace Go.Proofs.Ytngllioidfffdaa
set_option maxRecDepth 100000
open Go.RowKit
set_option linter.unusedVariables false
def stC (t : Tp) (vo vh vc : Value) : Array Value := #[.string ⟨t.1.toArray⟩, .string ⟨t.2.1.toArray⟩, .int .i64 t.2.2.1, .int .i64 t.2.2.2.1, .bool t.2.2.2.2, vo, vh, vc]
abbrev zS17 : Array Value := #[.string ⟨#[]⟩, .string ⟨#[]⟩, .int .i64 0, .int .i64 0, .bool false, .slice none 0 0, .slice none 0 0, .slice none 0 0]
theorem size_sto : (Try.prog.info? 28).map (·.size) = some 8 := by kernel_rfl
theorem results_st {fn : Func} {p : Tmp} (h : fn.results = #[.cell p 28]) (tmps : Array Value) (w : World) (g : Nat) (cs : Array Value) (hs : cs.size = 8)
    (hp : tmps.getD p undef = .pointer (some ⟨g, 0, none⟩)) (hg : SBox w g 28 cs) : (results fn tmps).run Try.prog w = .ok (.agg cs) w := by
  have hp' : tmps[p]?.getD undef = .pointer (some ⟨g, 0, none⟩) := by simpa using hp
  simp [results, h, hp', asAddr, run_loadVar_row w g 28 28 cs (0, 0) _ hg Try.underlying28 rfl (by rw [size_sto, hs])]
theorem results_st2 {fn : Func} {p q : Tmp} (h : fn.results = #[.cell p 28, .tmp q]) (tmps : Array Value) (w : World) (g : Nat) (cs : Array Value) (hs : cs.size = 8)
    (hp : tmps.getD p undef = .pointer (some ⟨g, 0, none⟩)) (hg : SBox w g 28 cs) : (results fn tmps).run Try.prog w = .ok (.tuple #[.agg cs, tmps.getD q undef]) w :=
  results_row_tmp h tmps w g 28 cs (0, 0) _ hp hg Try.underlying28 rfl (by rw [size_sto, hs])
theorem SBox.put8 {W : World} {B t : Nat} {c0 c1 c2 c3 c4 c5 c6 c7 : Value} (h : SBox W B t #[c0, c1, c2, c3, c4, c5, c6, c7]) (v0 v1 v2 v3 v4 v5 v6 v7 : Value) :
    SBox ((((((((W.setCell ⟨B, 0, none⟩ v0).setCell ⟨B, 1, none⟩ v1).setCell ⟨B, 2, none⟩ v2).setCell ⟨B, 3, none⟩ v3).setCell ⟨B, 4, none⟩ v4).setCell ⟨B, 5, none⟩ v5).setCell ⟨B, 6, none⟩ v6).setCell ⟨B, 7, none⟩ v7) B t #[v0, v1, v2, v3, v4, v5, v6, v7] :=
  SBox.putL [v0, v1, v2, v3, v4, v5, v6, v7] [] [c0, c1, c2, c3, c4, c5, c6, c7] W rfl h
theorem bel_put8 {n : Nat} {w W : World} {B : Nat} (h : Below n w W) (hb : n ≤ B) (v0 v1 v2 v3 v4 v5 v6 v7 : Value) :
    Below n w ((((((((W.setCell ⟨B, 0, none⟩ v0).setCell ⟨B, 1, none⟩ v1).setCell ⟨B, 2, none⟩ v2).setCell ⟨B, 3, none⟩ v3).setCell ⟨B, 4, none⟩ v4).setCell ⟨B, 5, none⟩ v5).setCell ⟨B, 6, none⟩ v6).setCell ⟨B, 7, none⟩ v7) :=
  (((((((h.setCell (p := ⟨B, 0, none⟩) hb _).setCell (p := ⟨B, 1, none⟩) hb _).setCell (p := ⟨B, 2, none⟩) hb _).setCell (p := ⟨B, 3, none⟩) hb _).setCell (p := ⟨B, 4, none⟩) hb _).setCell (p := ⟨B, 5, none⟩) hb _).setCell (p := ⟨B, 6, none⟩) hb _).setCell (p := ⟨B, 7, none⟩) hb _
theorem SBox.other8 {W : World} {g k t : Nat} {cs : Array Value} (h : SBox W g t cs) (hne : k ≠ g) (v0 v1 v2 v3 v4 v5 v6 v7 : Value) :
    SBox ((((((((W.setCell ⟨k, 0, none⟩ v0).setCell ⟨k, 1, none⟩ v1).setCell ⟨k, 2, none⟩ v2).setCell ⟨k, 3, none⟩ v3).setCell ⟨k, 4, none⟩ v4).setCell ⟨k, 5, none⟩ v5).setCell ⟨k, 6, none⟩ v6).setCell ⟨k, 7, none⟩ v7) g t cs :=
  (((((((h.other k 0 v0 hne).other k 1 v1 hne).other k 2 v2 hne).other k 3 v3 hne).other k 4 v4 hne).other k 5 v5 hne).other k 6 v6 hne).other k 7 v7 hne
theorem own_setlo {W : World} {B e sz n : Nat} {v : Value} {xs : List Value} (h : W.ownsRow B e sz v n xs) {k : Nat} (j : Nat) (hk : k < B) (u : Value) : (W.setCell ⟨k, j, none⟩ u).ownsRow B e sz v n xs :=
  owns_keep7 h u (fun e => by have := (h.lt k e.symm).1; omega)
theorem own_put8 {W : World} {B e sz n : Nat} {v : Value} {xs : List Value} (h : W.ownsRow B e sz v n xs) {k : Nat} (hk : k < B) (v0 v1 v2 v3 v4 v5 v6 v7 : Value) :
    ((((((((W.setCell ⟨k, 0, none⟩ v0).setCell ⟨k, 1, none⟩ v1).setCell ⟨k, 2, none⟩ v2).setCell ⟨k, 3, none⟩ v3).setCell ⟨k, 4, none⟩ v4).setCell ⟨k, 5, none⟩ v5).setCell ⟨k, 6, none⟩ v6).setCell ⟨k, 7, none⟩ v7).ownsRow B e sz v n xs :=
  own_setlo (own_setlo (own_setlo (own_setlo (own_setlo (own_setlo (own_setlo (own_setlo h 0 hk v0) 1 hk v1) 2 hk v2) 3 hk v3) 4 hk v4) 5 hk v5) 6 hk v6) 7 hk v7
theorem own_one17 (W : World) (e sz : Nat) (xs : List Value) (h : xs.length = sz) : (W.alloc (.cells xs.toArray e)).ownsRow W.heap.size e sz (.slice (some ⟨W.heap.size, 0, none⟩) 1 1) 1 xs :=
  ⟨by rw [h, Nat.one_mul], .inr ⟨W.heap.size, 1, xs.toArray, rfl, Nat.le_refl _, SBox.new W e _, Nat.le_refl _, by unfold maxLen; omega, by simp [h], by rw [List.toList_toArray, Nat.one_mul, ← h, List.take_length]⟩⟩
theorem sto_info_ev : (Try.prog.info? 30).map (fun i => (i.zero, i.size, i.bytes)) = some (some (.agg #[.int .i64 0, .int .i64 0, .string ByteArray.empty, .string ByteArray.empty]), 4, 48) := by kernel_rfl
theorem sto_info_hs : (Try.prog.info? 24).map (fun i => (i.zero, i.size, i.bytes)) = some (some (.slice none 0 0), 1, 24) := by kernel_rfl
theorem hs_one {W : World} {H' : List Value} {H : List (List Ev)} (h : HsOf W H' H) : ∀ u ∈ recV hsV H', u.oneCell' = true := by
  intro u hu
  obtain ⟨v, hv, hx⟩ := List.mem_flatMap.1 hu
  simp [hsV] at hx
  subst hx
  obtain ⟨i, hi, rfl⟩ := List.getElem_of_mem hv
  rcases (h.at_ i _ _ (List.getElem?_eq_getElem hi) (List.getElem?_eq_getElem (by rw [← h.len]; exact hi))).2 with e | ⟨ad, n, c, e⟩ <;> rw [e] <;> rfl
theorem ev_one17 (L : List Ev) : ∀ u ∈ recV evV L, u.oneCell' = true := recV_one (fun x u hu => by simp [evV] at hu; rcases hu with rfl | rfl | rfl | rfl <;> rfl) L
theorem str_one17 (L : List (List UInt8)) : ∀ u ∈ strV L, u.oneCell' = true := fun u hu => by obtain ⟨t, _, rfl⟩ := List.mem_map.1 hu; rfl
theorem src_txt {W : World} {v : Value} {L : List (List UInt8)} (h : IsTxt W v L) (hp : Shp17 v) : Src17 W 1 v L.length (strV L) := by
  rcases hp with rfl | ⟨ad, n, c, rfl⟩
  · obtain ⟨a, n, c, hv, h1, _⟩ := h
    obtain ⟨rfl, rfl, rfl⟩ : none = a ∧ 0 = n ∧ 0 = c := by simpa using hv
    obtain rfl : L = [] := List.length_eq_zero_iff.1 h1
    exact .inl ⟨rfl, rfl, rfl⟩
  · obtain ⟨a, n', c', hv, h1, _, _, _, _, h6⟩ := h
    obtain ⟨rfl, rfl, rfl⟩ : some ad = a ∧ n = n' ∧ c = c' := by simpa using hv
    subst h1
    refine .inr ⟨ad, c, rfl, by rw [strV_length, Nat.mul_one], fun j u hu => ?_⟩
    have hj := (List.getElem?_eq_some_iff.1 hu).1
    rw [strV_length] at hj
    rcases h6 with h6 | ⟨b, off, hb, hlt, hc⟩
    · omega
    · obtain rfl : ad = ⟨b, off, none⟩ := by simpa using hb
      have e : (⟨b, off, none⟩ : Addr).add j = ⟨b, off + j, none⟩ := by unfold Addr.add; by_cases hj0 : j = 0 <;> simp [hj0]
      rw [e, hc j hj]
      simp [strV, hj] at hu
      rw [← hu]
end Go.Proofs.Ytngllioidfffdaa
namespace Go.Proofs.Ytngllioidfffdaa
set_option maxRecDepth 100000
open Go.RowKit
set_option linter.unusedVariables false
def doesR (x : Sd) (rec : List UInt8) : Bool × Sd := match doesS x rec with
  | none => (false, x)
  | some y => (true, y)
theorem doesR_no {x : Sd} {rec : List UInt8} (h : doesS x rec = none) : doesR x rec = (false, x) := by unfold doesR; rw [h]
theorem doesR_yes {x y : Sd} {rec : List UInt8} (h : doesS x rec = some y) : doesR x rec = (true, y) := by unfold doesR; rw [h]
/-- A store is answered, and whether the record may be: what it holds, wherever what came in holds. -/
def DoesRes (w : World) (t : Tp) (vo vh vc : Value) (H' : List Value) (x : Sd) (y : Bool × Sd) (e : Ending) (w' : World) : Prop :=
  ∃ uo uh uc, e = .returned (.tuple #[.agg (stC t uo uh uc), .bool y.1]) ∧ Below w.heap.size w w' ∧ ∃ G', ∀ V, Agr w.heap.size w' V → StIn V vo vh vc H' x → StIn V uo uh uc G' y.2
theorem agrOf {n : Nat} {W : World} {Q : World → Prop} (h : ∀ V, Agr n W V → Q V) : Agr n W W := Agr.refl n W
/-- A store and a code are answered. -/
def StoRes (w : World) (vo vh vc : Value) (H' : List Value) (x : Sd) (y : Sto × Int) (e : Ending) (w' : World) : Prop :=
  ∃ uo uh uc, e = .returned (.tuple #[.agg (stC y.1.1 uo uh uc), .int .i64 y.2]) ∧ Below w.heap.size w w' ∧ ∃ G', ∀ V, Agr w.heap.size w' V → StIn V vo vh vc H' x → StIn V uo uh uc G' y.1.2
theorem StIn.slices {w : World} {vo vh vc : Value} {H' : List Value} {x : Sd} (h : StIn w vo vh vc H' x) : ∃ ao no co ah nh ch ac nc cc, vo = .slice ao no co ∧ vh = .slice ah nh ch ∧ vc = .slice ac nc cc := by
  obtain ⟨ao, co, e1, _⟩ := h.op.some_at
  obtain ⟨ah, ch, e2, _⟩ := h.hi.some_at
  obtain ⟨ac, cc, e3, _⟩ := h.ce.some_at
  exact ⟨_, _, _, _, _, _, _, _, _, e1, e2, e3⟩
theorem StIn.nums {w : World} {ao ah ac : Option Addr} {no co nh ch nc cc : Nat} {H' : List Value} {x : Sd} (h : StIn w (.slice ao no co) (.slice ah nh ch) (.slice ac nc cc) H' x) :
    (x.1.length = no ∧ no ≤ co ∧ co ≤ 9223372036854775807 ∧ no ≤ 140737488351232) ∧ (x.2.1.length = nh ∧ nh ≤ ch ∧ ch ≤ 9223372036854775807 ∧ nh ≤ 140737488351232) ∧ (x.2.2.length = nc ∧ nc ≤ cc ∧ cc ≤ 9223372036854775807 ∧ nc ≤ 140737488351232) := by
  obtain ⟨_, _, e1, a1, a2, a3, _⟩ := h.op.some_at
  obtain ⟨_, _, e2, b1, b2, b3, _⟩ := h.hi.some_at
  obtain ⟨_, _, e3, c1, c2, c3, _⟩ := h.ce.some_at
  have hl := h.ho.len
  simp only [Value.slice.injEq] at e1 e2 e3
  obtain ⟨_, rfl, rfl⟩ := e1
  obtain ⟨_, rfl, rfl⟩ := e2
  obtain ⟨_, rfl, rfl⟩ := e3
  exact ⟨⟨rfl, a1, a2, a3⟩, ⟨hl.symm, b1, b2, b3⟩, ⟨rfl, c1, c2, c3⟩⟩
theorem sbox3 (w : World) (A B : Obj) (t : TypeId) (cs : Array Value) : SBox (((w.alloc A).alloc B).alloc (.cells cs t)) (w.heap.size + 2) t cs := by
  have := SBox.new ((w.alloc A).alloc B) t cs
  rwa [World.size_alloc, World.size_alloc] at this
theorem bel3 (w : World) (A B C : Obj) : Below w.heap.size w (((w.alloc A).alloc B).alloc C) := (bel2 w A B).alloc (by simp only [World.size_alloc]; omega) C
def wrS (s : Sto) (rec : List UInt8) : Sto × Int := if (writeT s.1 rec).2 = 0 then (((writeT s.1 rec).1, (doesR s.2 rec).2), 0) else (((writeT s.1 rec).1, s.2), (writeT s.1 rec).2)
def syS (s : Sto) (e : Int) : Sto × Int := if e = 0 then (((syncT s.1).1, s.2), (syncT s.1).2) else (s, e)
theorem doesR_getD (x : Sd) (rec : List UInt8) : (doesR x rec).2 = (doesS x rec).getD x := by unfold doesR; cases doesS x rec <;> rfl
theorem writeS_no (s : Sto) (rec : List UInt8) : writeS s rec false = wrS s rec := by
  unfold writeS wrS
  by_cases h : (writeT s.1 rec).2 = 0
  · rw [if_neg (fun h' => h' h), if_pos h, if_neg (by simp), doesR_getD]
  · rw [if_pos h, if_neg h]
theorem writeS_yes (s : Sto) (rec : List UInt8) : writeS s rec true = syS (wrS s rec).1 (wrS s rec).2 := by
  unfold writeS wrS syS
  by_cases h : (writeT s.1 rec).2 = 0
  · rw [if_neg (fun h' => h' h), if_pos h, if_pos rfl, doesR_getD, if_pos rfl]
  · rw [if_pos h, if_neg h, if_neg h]
theorem SBox.put58 {W : World} {B t : Nat} {c0 c1 c2 c3 c4 c5 c6 c7 : Value} (h : SBox W B t #[c0, c1, c2, c3, c4, c5, c6, c7]) (a b c d e : Value) :
    SBox (((((W.setCell ⟨B, 0, none⟩ a).setCell ⟨B, 1, none⟩ b).setCell ⟨B, 2, none⟩ c).setCell ⟨B, 3, none⟩ d).setCell ⟨B, 4, none⟩ e) B t #[a, b, c, d, e, c5, c6, c7] :=
  ((((h.set 0 a).set 1 b).set 2 c).set 3 d).set 4 e
end Go.Proofs.Ytngllioidfffdaa
