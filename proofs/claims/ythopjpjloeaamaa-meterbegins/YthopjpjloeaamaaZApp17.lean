/-
  A row appended to a row of the walk's own, of whatever elements: of no program.
-/
import Derived.Test.YthopjpjloeaamaaZRecSrc
import Derived.Test.YthopjpjloeaamaaGB
import Derived.Test.YthopjpjloeaamaaZP3Base
import Derived.Laws.AppendOwnNone
namespace Go.Proofs.Ythopjpjloeaamaa
set_option maxRecDepth 100000
open Go.RowKit
set_option linter.unusedVariables false
/-- A slice is of one of two shapes. -/
def Shp17 (v : Value) : Prop := v = .slice none 0 0 ∨ ∃ ad n c, v = .slice (some ad) n c
theorem shp_own {W : World} {B e k n : Nat} {v : Value} {xs : List Value} (h : W.ownsRow B e k v n xs) : Shp17 v := by
  rcases h.2 with ⟨rfl, _⟩ | ⟨g, cap, cur, rfl, _⟩
  · exact .inl rfl
  · exact .inr ⟨_, _, _, rfl⟩
/-- A row that may be handed to append: its cells. -/
def Src17 (W : World) (sz : Nat) (v : Value) (n : Nat) (xs : List Value) : Prop := (v = .slice none 0 0 ∧ n = 0 ∧ xs = []) ∨ ∃ ad c, v = .slice (some ad) n c ∧ xs.length = n * sz ∧ ∀ j u, xs[j]? = some u → W.cell? (ad.add j) = some u
theorem Src17.below {W W' : World} {sz : Nat} {v : Value} {n : Nat} {xs : List Value} (h : Src17 W sz v n xs) (b : Below W.heap.size W W') : Src17 W' sz v n xs := by
  rcases h with h | ⟨ad, c, hv, hl, hc⟩
  · exact .inl h
  · exact .inr ⟨ad, c, hv, hl, fun j u hu => cell_bel b (hc j u hu)⟩
theorem src_rec {α : Type} {sz : Nat} {enc : α → List Value} (hz : ∀ x, (enc x).length = sz) (hs : 0 < sz) {W : World} {v : Value} {L : List α} (h : IsRec sz enc W v L) (hp : Shp17 v) : Src17 W sz v L.length (recV enc L) := by
  rcases hp with rfl | ⟨ad, n, c, rfl⟩
  · obtain ⟨a, n, c, hv, h1, _⟩ := h
    obtain ⟨rfl, rfl, rfl⟩ : none = a ∧ 0 = n ∧ 0 = c := by simpa using hv
    obtain rfl : L = [] := List.length_eq_zero_iff.1 h1
    exact .inl ⟨rfl, rfl, rfl⟩
  · have hn : n = L.length := by
      obtain ⟨a, n', c', hv, h1, _⟩ := h
      obtain ⟨_, rfl, _⟩ : some ad = a ∧ n = n' ∧ c = c' := by simpa using hv
      exact h1.symm
    subst hn
    exact .inr ⟨ad, c, rfl, by rw [recV_length hz], IsRec.src hz hs h (Below.refl _ W)⟩
theorem src_own {W : World} {B e sz n : Nat} {v : Value} {xs : List Value} (h : W.ownsRow B e sz v n xs) : Src17 W sz v n xs := by
  obtain ⟨h1, h2⟩ := h
  rcases h2 with ⟨rfl, rfl⟩ | ⟨g, cap, cur, rfl, hbg, hg, hnc, hcm, hcs, htake⟩
  · exact .inl ⟨rfl, rfl, List.length_eq_zero_iff.1 (by rw [h1]; exact Nat.zero_mul _)⟩
  · refine .inr ⟨_, _, rfl, h1, fun j u hu => ?_⟩
    have hj := (List.getElem?_eq_some_iff.1 hu).1
    have e : (⟨g, 0, none⟩ : Addr).add j = ⟨g, j, none⟩ := by unfold Addr.add; by_cases hj0 : j = 0 <;> simp [hj0]
    rw [e, Lib.cell_of_heap hg, ← Array.getElem?_toList, ← hu, ← htake, List.getElem?_take_of_lt (by omega)]
/-- A row appended to a row of the walk's own, of whatever elements. -/
theorem app17 {w : World} {ops : Array Oper} {rest : List Oper} {o : Oper} {a : Act} {Q : Exit → Act → World → Prop} (hgd : o.guard = none) (s x : Operand) (t e sz bytes : Nat) (z : Value)
    (ho : o.op = .call { callee := .builtin .append, args := #[s, x], argTypes := #[t, t] }) (ht : Try.prog.underlying t = some (.slice e)) (hinfo : (Try.prog.info? e).map (fun i => (i.zero, i.size, i.bytes)) = some (some z, sz, bytes)) (hzs : z.cells.size = sz) (hsz : 0 < sz) (hby : bytes ≤ 128)
    (base : Nat) (v : Value) (n : Nat) (xs : List Value) (hs : a.eval s = v) (hown : w.ownsRow base e sz v n xs) (v2 : Value) (m : Nat) (ys : List Value) (hx : a.eval x = v2) (hr : Src17 w sz v2 m ys) (h1 : ∀ u ∈ ys, u.oneCell' = true) (hb : n + m ≤ 1099511627776) (hbase : base ≤ w.heap.size)
    (h : ∀ v' w', w'.ownsRow base e sz v' (n + m) (xs ++ ys) → w.grownBy w' v.ownBlock → wpList Try.prog ops Q rest (a.put o.dst v') w') : wpList Try.prog ops Q (o :: rest) a w := by
  obtain ⟨i0, hi, hz0, hz1, hz2⟩ := info_parts hinfo
  have hbb : (n + m) * bytes ≤ 140737488355328 := Nat.le_trans (Nat.mul_le_mul_left _ hby) (by omega)
  rcases hr with ⟨e1, rfl, rfl⟩ | ⟨ad, c, hv, hl, hc⟩
  · refine wpList_append_own_none hgd s x t ho base e i0 sz ht hi v n xs hs hown (hx.trans e1) ?_
    exact h v w (by rw [List.append_nil]; exact hown) (World.grownBy.refl w _)
  · rw [hv] at hx
    exact wpList_append_own w hgd s x t ho base e i0 z sz bytes ht hi hz0 hz1 hz2 hzs hsz v n xs hs hown ad m c ys hx hl hc h1 (by unfold maxLen; omega) hbb hbase fun v' w' h2 h3 _ => h v' w' h2 h3
end Go.Proofs.Ythopjpjloeaamaa
