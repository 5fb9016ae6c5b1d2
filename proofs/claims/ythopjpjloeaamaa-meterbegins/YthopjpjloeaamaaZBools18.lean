/-
  Rows of bools; a row of the walk's own, appended to, as long as memory goes; a box of two cells beside it.
-/
import Derived.Test.YthopjpjloeaamaaZMeter18
import Derived.Test.YthopjpjloeaamaaZP3Base
import Derived.Test.YthopjpjloeaamaaZApp17
import Derived.Test.YthopjpjloeaamaaZPutL
namespace Go.Proofs.Ythopjpjloeaamaa
set_option maxRecDepth 100000
open Go.RowKit
set_option linter.unusedVariables false
def boE (b : Bool) : List Value := [.bool b]
abbrev IsBs (w : World) (v : Value) (L : List Bool) : Prop := IsRec 1 boE w v L
/-- A row of bools is answered. -/
def SpRes (w : World) (L : List Bool) (e : Ending) (w' : World) : Prop := ∃ v, e = .returned v ∧ Below w.heap.size w w' ∧ IsBs w' v L
theorem boo_info : (Try.prog.info? 4).map (fun i => (i.zero, i.size, i.bytes)) = some (some (.bool false), 1, 1) := by kernel_rfl
theorem app18 {w : World} {ops : Array Oper} {rest : List Oper} {o : Oper} {a : Act} {Q : Exit → Act → World → Prop} (hgd : o.guard = none) (s x : Operand) (t e sz bytes : Nat) (z : Value)
    (ho : o.op = .call { callee := .builtin .append, args := #[s, x], argTypes := #[t, t] }) (ht : Try.prog.underlying t = some (.slice e)) (hinfo : (Try.prog.info? e).map (fun i => (i.zero, i.size, i.bytes)) = some (some z, sz, bytes)) (hzs : z.cells.size = sz) (hsz : 0 < sz)
    (base : Nat) (v : Value) (n : Nat) (xs : List Value) (hs : a.eval s = v) (hown : w.ownsRow base e sz v n xs) (v2 : Value) (m : Nat) (ys : List Value) (hx : a.eval x = v2) (hr : Src17 w sz v2 m ys) (h1 : ∀ u ∈ ys, u.oneCell' = true) (hm : n + m ≤ 9223372036854775807) (hbb : (n + m) * bytes ≤ 140737488355328) (hbase : base ≤ w.heap.size)
    (h : ∀ v' w', w'.ownsRow base e sz v' (n + m) (xs ++ ys) → w.grownBy w' v.ownBlock → wpList Try.prog ops Q rest (a.put o.dst v') w') : wpList Try.prog ops Q (o :: rest) a w := by
  obtain ⟨i0, hi, hz0, hz1, hz2⟩ := info_parts hinfo
  rcases hr with ⟨e1, rfl, rfl⟩ | ⟨ad, c, hv, hl, hc⟩
  · refine wpList_append_own_none hgd s x t ho base e i0 sz ht hi v n xs hs hown (hx.trans e1) ?_
    exact h v w (by rw [List.append_nil]; exact hown) (World.grownBy.refl w _)
  · rw [hv] at hx
    exact wpList_append_own w hgd s x t ho base e i0 z sz bytes ht hi hz0 hz1 hz2 hzs hsz v n xs hs hown ad m c ys hx hl hc h1 (by unfold maxLen; omega) hbb hbase fun v' w' h2 h3 _ => h v' w' h2 h3
theorem own_nil18 (W : World) (B e sz : Nat) : W.ownsRow B e sz (.slice none 0 0) 0 [] := ⟨by simp, .inl ⟨rfl, rfl⟩⟩
theorem own_one18 (W : World) (e : Nat) (xs : List Value) (h : xs.length = 1) : (W.alloc (.cells xs.toArray e)).ownsRow W.heap.size e 1 (.slice (some ⟨W.heap.size, 0, none⟩) 1 1) 1 xs :=
  ⟨by rw [h], .inr ⟨W.heap.size, 1, xs.toArray, rfl, Nat.le_refl _, SBox.new W e _, Nat.le_refl _, by unfold maxLen; omega, by simp [h], by rw [List.toList_toArray, Nat.one_mul, ← h, List.take_length]⟩⟩
theorem owns_type18 {W : World} {B e k n b t : Nat} {v : Value} {xs : List Value} {cs : Array Value} (h : W.ownsRow B e k v n xs) (hb : SBox W b t cs) (hte : e ≠ t) (j : Nat) (u : Value) : (W.setCell ⟨b, j, none⟩ u).ownsRow B e k v n xs := by
  refine h.kept (grown_set14 W b j u) ?_
  rcases h.2 with ⟨rfl, _⟩ | ⟨g, cap, cur, rfl, _, hgb, _⟩
  · exact .inl rfl
  · refine .inr (fun e => ?_)
    have e2 : b = g := by have e3 := e; simp [Value.ownBlock] at e3; omega
    rw [← e2] at hgb
    have hb' : W.heap[b]? = some (.cells cs t (0, 0)) := hb
    rw [hb'] at hgb
    have := Option.some.inj hgb
    injection this with _ h2 _
    exact hte h2.symm
theorem cell_lt18 {W : World} {a : Addr} {v : Value} (h : W.cell? a = some v) : a.block < W.heap.size := World.block_lt_of_cell? W _ h
theorem cell_put18 {W : World} {a : Addr} {v : Value} {k : Nat} (h : W.cell? a = some v) (hne : a.block ≠ k) (x y : Value) : ((W.setCell ⟨k, 0, none⟩ x).setCell ⟨k, 1, none⟩ y).cell? a = some v := by
  have e : ((W.setCell ⟨k, 0, none⟩ x).setCell ⟨k, 1, none⟩ y).heap[a.block]? = W.heap[a.block]? := by
    rw [World.setCell, World.setCell]
    simp [Array.getElem?_modify, Ne.symm hne]
  rw [World.cell?_of_block (w := W) e]
  exact h
theorem SBox.grown18 {W W2 : World} {g t : Nat} {cs : Array Value} {B e sz n : Nat} {v : Value} {xs : List Value} (h : SBox W g t cs) (O : W.ownsRow B e sz v n xs) (hg : W.grownBy W2 v.ownBlock) (hb : g < B) : SBox W2 g t cs :=
  (hg.block g h.lt (fun e => by have := (O.lt g e.symm).1; omega)).trans h
end Go.Proofs.Ythopjpjloeaamaa
