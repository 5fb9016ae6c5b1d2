/-
  Rows of events (kind, transaction, key, value: four cells an element): of no program.
-/
import Derived.Test.YthopjpjloeaamaaZRecs
import Derived.Test.YthopjpjloeaamaaZEventL
import Derived.ChangeArms
namespace Go.Proofs.Ythopjpjloeaamaa
set_option maxRecDepth 100000
open Go.RowKit Go.ChangeShapes Go.WideShapes
set_option linter.unusedVariables false
/-- An event's cells. -/
def evV (x : Ev) : List Value := [.int .i64 x.1, .int .i64 x.2.1, .string ⟨x.2.2.1.toArray⟩, .string ⟨x.2.2.2.toArray⟩]
theorem evV_len (x : Ev) : (evV x).length = 4 := rfl
theorem evV_one (x : Ev) : ∀ u ∈ evV x, u.oneCell' = true := by
  intro u hu
  simp [evV] at hu
  rcases hu with rfl | rfl | rfl | rfl <;> rfl
/-- Numbers that an int may be, texts that may lie in memory. -/
def goodE (x : Ev) : Prop := (-9223372036854775808 ≤ x.1 ∧ x.1 ≤ 9223372036854775807) ∧ (-9223372036854775808 ≤ x.2.1 ∧ x.2.1 ≤ 9223372036854775807) ∧ x.2.2.1.length ≤ 140737488351232 ∧ x.2.2.2.length ≤ 140737488351232
abbrev IsEvs (w : World) (v : Value) (L : List Ev) : Prop := IsRec 4 evV w v L
theorem IsEvs.at {w : World} {b off : Nat} {L : List Ev} {k : Nat} (hk : k < L.length) (h : ∀ j u, (evV L[k])[j]? = some u → w.cell? ⟨b, off + k * 4 + j, none⟩ = some u) :
    w.cell? ⟨b, off + k * 4, none⟩ = some (.int .i64 L[k].1) ∧ w.cell? ⟨b, off + k * 4 + 1, none⟩ = some (.int .i64 L[k].2.1) ∧ w.cell? ⟨b, off + k * 4 + 2, none⟩ = some (.string ⟨L[k].2.2.1.toArray⟩) ∧ w.cell? ⟨b, off + k * 4 + 3, none⟩ = some (.string ⟨L[k].2.2.2.toArray⟩) :=
  ⟨h 0 _ rfl, h 1 _ rfl, h 2 _ rfl, h 3 _ rfl⟩
theorem mayE_range {k t : Int} {a b : List UInt8} (h : mayE (k, t, a, b)) : 1 ≤ k ∧ k ≤ 5 ∧ 1 ≤ t ∧ t ≤ 32 := h.1
theorem mayE_key {k t : Int} {a b : List UInt8} (h : k = 2 ∨ k = 3) : mayE (k, t, a, b) ↔ (1 ≤ k ∧ k ≤ 5 ∧ 1 ≤ t ∧ t ≤ 32) ∧ (1 ≤ a.length ∧ a.length ≤ 32 ∧ b.length ≤ 32 ∧ (k = 2 ∨ 1 ≤ b.length)) := by
  unfold mayE
  simp only
  rw [if_pos (show keyedE k from h)]
theorem mayE_unkey {k t : Int} {a b : List UInt8} (h : ¬ (k = 2 ∨ k = 3)) : mayE (k, t, a, b) ↔ (1 ≤ k ∧ k ≤ 5 ∧ 1 ≤ t ∧ t ≤ 32) ∧ (a = [] ∧ b = []) := by
  unfold mayE
  simp only
  rw [if_neg (show ¬ keyedE k from h)]
/-- A cell of a box made ahead of what left all that lay. -/
theorem box_cell {w w1 : World} {c : Array Value} {t : TypeId} (b : Below (w.alloc (.cells c t)).heap.size (w.alloc (.cells c t)) w1) (j : Nat) (u : Value) (h : c[j]? = some u) : w1.cell? ⟨w.heap.size, j, none⟩ = some u :=
  (b.cell (p := ⟨w.heap.size, j, none⟩) (by simp)).trans (by rw [World.cell?_alloc_new]; exact h)
theorem box_cell_al {w w1 : World} {c : Array Value} {t : TypeId} (b : Below (w.alloc (.cells c t)).heap.size (w.alloc (.cells c t)) w1) (j : Nat) (u : Value) (h : c[j]? = some u) (o : Obj) : (w1.alloc o).cell? ⟨w.heap.size, j, none⟩ = some u :=
  box_cell (b.alloc b.size o) j u h
theorem i64_wf {n : Int} (h : (Lit.int .i64 n).wf = true) : -9223372036854775808 ≤ n ∧ n ≤ 9223372036854775807 := by
  simp [Lit.wf, IntKind.min, IntKind.max, IntKind.signed, IntKind.bits] at h
  omega
section
variable {H : Type} {enc : TypeId × Value → H} {P : Program} {W : World}
theorem ev_elem {e : TypeId} {f0 f1 f2 f3 : Field} (hs : P.underlying e = some (.struct #[f0, f1, f2, f3])) (hone : Go.Deep.oneCellFields P #[f0, f1, f2, f3] = true)
    (u0 : P.underlying f0.type = some (.int .i64)) (u1 : P.underlying f1.type = some (.int .i64)) (u2 : P.underlying f2.type = some .string) (u3 : P.underlying f3.type = some .string)
    (n : Nat) (cs' : List Value) (d' : DataW H) (p' : List MemPlace) (hl : cs'.length = 4) (h : DataW.trod enc P W 0 (fun _ => true) true n e cs' = some (d', p')) (hw : (DataW.weights P e d').all (· ≤ reachBytes) = true) : ∃ x, cs' = evV x ∧ goodE x := by
  obtain ⟨xs, k, _, hx, hcl, hlen, hel⟩ := DataW.trod_struct hs h
  have hlen' : xs.length = 4 := hlen
  match xs, hlen', cs', hl with
  | [y0, y1, y2, y3], _, [c0, c1, c2, c3], _ =>
    obtain ⟨o0, k0⟩ := Go.Deep.hone_of hone 0 f0 rfl
    obtain ⟨o1, k1⟩ := Go.Deep.hone_of hone 1 f1 rfl
    obtain ⟨o2, k2⟩ := Go.Deep.hone_of hone 2 f2 rfl
    obtain ⟨o3, k3⟩ := Go.Deep.hone_of hone 3 f3 rfl
    have g0 := hel 0 f0 rfl
    have g1 := hel 1 f1 rfl
    have g2 := hel 2 f2 rfl
    have g3 := hel 3 f3 rfl
    simp [o0, o1, o2, o3, k0, k1, k2, k3] at g0 g1 g2 g3
    obtain ⟨n0, e0, rfl, w0⟩ := DataW.trod_int u0 g0
    obtain ⟨n1, e1, rfl, w1⟩ := DataW.trod_int u1 g1
    obtain ⟨s2, e2, rfl, _⟩ := DataW.trod_string u2 g2
    obtain ⟨s3, e3, rfl, _⟩ := DataW.trod_string u3 g3
    have hd := congrArg Prod.fst hx
    simp at hd
    subst hd
    simp at e0 e1 e2 e3
    subst e0 e1 e2 e3
    simp only [DataW.weights, DataW.weightsEach, hs, List.map_cons, List.map_nil, List.append_nil, List.nil_append, List.all_append, List.all_cons, List.all_nil, Bool.and_true, Bool.and_eq_true] at hw
    refine ⟨(n0, n1, s2.data.toList, s3.data.toList), rfl, i64_wf w0, i64_wf w1, ?_, ?_⟩
    · exact of_decide_eq_true hw.1
    · exact of_decide_eq_true hw.2
end
end Go.Proofs.Ythopjpjloeaamaa
