/-
  Numbers and steps among the arguments, opened: slices of them.
-/
import Derived.Test.YtpfpkpaodlmlaaaZOpen6
import Derived.Test.YtpfpkpaodlmlaaaGF
namespace Go.Proofs.Ytpfpkpaodlmlaaa
set_option maxRecDepth 100000
open Go.ChangeShapes Go.WideShapes Go.ChangeAt Go.RowKit
set_option linter.unusedVariables false
theorem okS_wf {n : Int} (h : (Lit.int .i64 n).wf = true) : okS n := i64_wf h
/-- A slice is of one of two shapes. -/
theorem shp_arg {H : Type} {enc : TypeId × Value → H} {W : World} {t e : TypeId} (ht : Try.prog.underlying t = some (.slice e)) {v : Value} {d : DataW H} {p : List MemPlace} (hv : ∃ a n c, v = .slice a n c)
    (h : DataW.Trod enc Try.prog W 0 (fun _ => true) true t v d p) : Shp v := by
  obtain ⟨a, n, c, rfl⟩ := hv
  obtain ⟨fuel, hf⟩ := h
  rcases DataW.trod_slice ht (by simpa [Value.cells] using hf) with ⟨hcs, _⟩ | ⟨a', len, cap, _, _, _, _, hcs, _⟩
  · simp at hcs
    obtain ⟨rfl, rfl, rfl⟩ := hcs
    exact .inl rfl
  · simp at hcs
    obtain ⟨rfl, rfl, rfl⟩ := hcs
    exact .inr ⟨_, _, _, rfl⟩
theorem int_elem {H : Type} {enc : TypeId × Value → H} {W : World} (n : Nat) (cs' : List Value) (d' : DataW H) (p' : List MemPlace) (hl : cs'.length = 1) (h : DataW.trod enc Try.prog W 0 (fun _ => true) true n 3 cs' = some (d', p')) : ∃ x, cs' = intV x ∧ okS x := by
  obtain ⟨n0, e0, hx, w0⟩ := DataW.trod_int Try.underlying3 h
  exact ⟨n0, by rw [e0]; rfl, okS_wf w0⟩
theorem int_arg {H : Type} {enc : TypeId × Value → H} {W : World} {v : Value} {d : DataW H} {p : List MemPlace} (hv : ∃ a n c, v = .slice a n c)
    (h : DataW.Trod enc Try.prog W 0 (fun _ => true) true 22 v d p) (hw : (DataW.weights Try.prog 22 d).all (· ≤ reachBytes) = true) : ∃ L : List Int, IsInts W v L ∧ Shp v ∧ (∀ x ∈ L, okS x) ∧ L.length * 8 ≤ reachBytes := by
  have hs := shp_arg Try.underlying22 hv h
  obtain ⟨a, n, c, rfl⟩ := hv
  obtain ⟨fuel, hf⟩ := h
  obtain ⟨L, h1, h2, h3⟩ := rec_cells (sz := 1) (rec := intV) okS 8 Try.underlying22 (by kernel_rfl) (by omega) (by kernel_rfl) (by omega) (fun n cs' d' p' hl h hw' => int_elem n cs' d' p' hl h) (by simpa [Value.cells] using hf) hw
  exact ⟨L, h1, hs, h2, h3⟩
theorem ed_elem11 {H : Type} {enc : TypeId × Value → H} {W : World} (n : Nat) (cs' : List Value) (d' : DataW H) (p' : List MemPlace) (hl : cs'.length = 5) (h : DataW.trod enc Try.prog W 0 (fun _ => true) true n 66 cs' = some (d', p')) : ∃ x : Ed, cs' = edV x ∧ True := by
  have hu := Try.underlying66
  obtain ⟨xs, k, _, hx, hcl, hlen, hel⟩ := DataW.trod_struct hu h
  have hlen' : xs.length = 5 := hlen
  match xs, hlen', cs', hl with
  | [y0, y1, y2, y3, y4], _, [c0, c1, c2, c3, c4], _ =>
    have k3 : Try.prog.cellsOf 3 = 1 := by kernel_rfl
    have g0 := hel 0 _ rfl
    have g1 := hel 1 _ rfl
    have g2 := hel 2 _ rfl
    have g3 := hel 3 _ rfl
    have g4 := hel 4 _ rfl
    simp [k3] at g0 g1 g2 g3 g4
    obtain ⟨n0, e0, rfl, w0⟩ := DataW.trod_int Try.underlying3 g0
    obtain ⟨n1, e1, rfl, w1⟩ := DataW.trod_int Try.underlying3 g1
    obtain ⟨n2, e2, rfl, w2⟩ := DataW.trod_int Try.underlying3 g2
    obtain ⟨n3, e3, rfl, w3⟩ := DataW.trod_int Try.underlying3 g3
    obtain ⟨n4, e4, rfl, w4⟩ := DataW.trod_int Try.underlying3 g4
    simp at e0 e1 e2 e3 e4
    subst e0 e1 e2 e3 e4
    exact ⟨(n0, n1, n2, n3, n4), rfl, trivial⟩
theorem ed_cells {H : Type} {enc : TypeId × Value → H} {W : World} {m : Nat} {c : Value} {d : DataW H} {p : List MemPlace}
    (hf : DataW.trod enc Try.prog W 0 (fun _ => true) true m 35 [c] = some (d, p)) (hw : (DataW.weights Try.prog 35 d).all (· ≤ reachBytes) = true) : ∃ L : List Ed, IsEds W c L ∧ (∀ x ∈ L, True) ∧ L.length * 40 ≤ reachBytes :=
  rec_cells (sz := 5) (rec := edV) (fun _ => True) 40 Try.underlying35 (by kernel_rfl) (by omega) (by kernel_rfl) (by omega) (fun n cs' d' p' hl h hw' => ed_elem11 n cs' d' p' hl h) hf hw
theorem st_elem {H : Type} {enc : TypeId × Value → H} {W : World} (n : Nat) (cs' : List Value) (d' : DataW H) (p' : List MemPlace) (hl : cs'.length = 3) (h : DataW.trod enc Try.prog W 0 (fun _ => true) true n 37 cs' = some (d', p')) (hw : (DataW.weights Try.prog 37 d').all (· ≤ reachBytes) = true) :
    ∃ x : SVt, cs' = stV x ∧ okS x.1 ∧ okS x.2.1 ∧ ∃ E, IsEds W x.2.2 E ∧ E.length ≤ 3518437208780 := by
  have hu := Try.underlying37
  obtain ⟨xs, k, _, hx, hcl, hlen, hel⟩ := DataW.trod_struct hu h
  have hlen' : xs.length = 3 := hlen
  match xs, hlen', cs', hl with
  | [y0, y1, y2], _, [c0, c1, c2], _ =>
    have k3 : Try.prog.cellsOf 3 = 1 := by kernel_rfl
    have k4 : Try.prog.cellsOf 35 = 1 := by kernel_rfl
    have g0 := hel 0 _ rfl
    have g1 := hel 1 _ rfl
    have g2 := hel 2 _ rfl
    simp [k3, k4] at g0 g1 g2
    obtain ⟨n0, e0, r0, w0⟩ := DataW.trod_int Try.underlying3 g0
    obtain ⟨n1, e1, r1, w1⟩ := DataW.trod_int Try.underlying3 g1
    simp at e0 e1
    subst e0 e1
    have hd := congrArg Prod.fst hx
    simp at hd
    subst hd
    simp only [DataW.weights, hu, List.map_cons, List.map_nil] at hw
    have hw2 : (DataW.weights Try.prog 35 y2.1).all (· ≤ reachBytes) = true := by
      simp only [DataW.weightsEach, List.append_nil, List.all_append, Bool.and_eq_true] at hw
      exact hw.2.2
    obtain ⟨E, hE, _, hEl⟩ := ed_cells (d := y2.1) (p := y2.2) g2 hw2
    exact ⟨(n0, n1, c2), rfl, okS_wf w0, okS_wf w1, E, hE, by unfold reachBytes at hEl; omega⟩
theorem st_list {W : World} : ∀ (L' : List SVt), (∀ x ∈ L', okS x.1 ∧ okS x.2.1 ∧ ∃ E, IsEds W x.2.2 E ∧ E.length ≤ 3518437208780) → ∃ L : List Stp, StOf W L' L ∧ ∀ x ∈ L, goodSt x
  | [], _ => ⟨[], ⟨rfl, fun i x s h => by simp at h⟩, by simp⟩
  | y :: L', h => by
    obtain ⟨L, h1, h2⟩ := st_list L' (fun x hx => h x (List.mem_cons_of_mem _ hx))
    obtain ⟨g1, g2, E, hE, hEl⟩ := h y (List.mem_cons_self ..)
    refine ⟨(y.1, y.2.1, E) :: L, ⟨by simp [h1.1], fun i x s hx hs => ?_⟩, fun x hx => ?_⟩
    · cases i with
      | zero =>
        simp at hx hs
        subst hx hs
        exact ⟨rfl, rfl, hE⟩
      | succ i => exact h1.2 i x s (by simpa using hx) (by simpa using hs)
    · rcases List.mem_cons.1 hx with rfl | hx
      · exact ⟨g1, g2, hEl⟩
      · exact h2 x hx
theorem st_arg {H : Type} {enc : TypeId × Value → H} {W : World} {v : Value} {d : DataW H} {p : List MemPlace} (hv : ∃ a n c, v = .slice a n c)
    (h : DataW.Trod enc Try.prog W 0 (fun _ => true) true 23 v d p) (hw : (DataW.weights Try.prog 23 d).all (· ≤ reachBytes) = true) : ∃ L : List Stp, IsSts W v L ∧ Shp v ∧ (∀ x ∈ L, goodSt x) ∧ L.length * 40 ≤ reachBytes := by
  have hs := shp_arg Try.underlying23 hv h
  obtain ⟨a, n, c, rfl⟩ := hv
  obtain ⟨fuel, hf⟩ := h
  obtain ⟨L', h1, h2, h3⟩ := rec_cells (sz := 3) (rec := stV) (fun x : SVt => okS x.1 ∧ okS x.2.1 ∧ ∃ E, IsEds W x.2.2 E ∧ E.length ≤ 3518437208780) 40 Try.underlying23 (by kernel_rfl) (by omega) (by kernel_rfl) (by omega) (fun n cs' d' p' hl h hw' => st_elem n cs' d' p' hl h hw') (by simpa [Value.cells] using hf) hw
  obtain ⟨L, g1, g2⟩ := st_list L' h2
  exact ⟨L, ⟨L', h1, g1⟩, hs, g2, by rw [← g1.1]; exact h3⟩
end Go.Proofs.Ytpfpkpaodlmlaaa
