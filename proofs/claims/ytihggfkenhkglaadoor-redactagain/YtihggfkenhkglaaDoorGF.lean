/-
  A row of bytes that the call made out of a string, and appended to: of no program.
  A row of bytes that the call made out of a string, and a slice of bytes appended to it; an owned row as a string: of no program.
  A sum's bytes as words; noughts behind a text, one after the other: of no program.
  What cartoucheref02.pad answers.
  What cartoucheref02.all answers.
  What cartoucheref02.Start answers.
-/
import Derived.Test.YtihggfkenhkglaaDoorGB
import Derived.Lib.AppendStr
import Derived.Lib.Builder
import Derived.Lib.ConvBytes
import Derived.Lib.UnsafeStr
import Derived.Laws.AppendOwn
import Derived.Test.YtihggfkenhkglaaDoorGC
import Derived.Test.YtihggfkenhkglaaDoorGD
import Derived.Test.YtihggfkenhkglaaDoorGE
import Derived.Test.YtihggfkenhkglaaDoorGH
namespace Go.Proofs.YtihggfkenhkglaaDoor
set_option maxRecDepth 100000
open Go.RowKit

/-- The slice v of n bytes lies at the head of a row among the blocks from base on, its first cells are xs, and none behind them is frozen. -/
def OwnB (w : World) (base : Nat) (e : TypeId) (v : Value) (n : Nat) (xs : List Value) : Prop :=
  xs.length = n ∧ ∃ g cap cur fz, v = .slice (some ⟨g, 0, none⟩) n cap ∧ base ≤ g ∧ w.heap[g]? = some (.cells cur e fz) ∧ (∀ i, n ≤ i → i < cur.size → ¬ (fz.1 ≤ i ∧ i < fz.2)) ∧ n ≤ cap ∧ cap ≤ maxLen ∧ cap ≤ cur.size ∧ cur.toList.take n = xs
theorem store_free (P : Program) (g o : Nat) (t : TypeId) (fz : Nat × Nat) : ∀ (vs : List Value) (i : Nat) (cur : Array Value) (w : World), w.heap[g]? = some (.cells cur t fz) → (∀ j, o + i ≤ j → j < cur.size → ¬ (fz.1 ≤ j ∧ j < fz.2)) → o + i + vs.length ≤ cur.size → (∀ v ∈ vs, v.oneCell' = true) →
    (storeCells ⟨g, o, none⟩ vs i).run P w = .ok () (w.setRow g (cur.toList.take (o + i) ++ vs ++ cur.toList.drop (o + i + vs.length)).toArray)
  | [], i, cur, w, hg, _, _, _ => by
    simp only [storeCells, List.append_nil, List.length_nil, Nat.add_zero, List.take_append_drop, Array.toArray_toList]
    rw [setRow_self w g cur t fz hg]
    rfl
  | v :: rest, i, cur, w, hg, hfz, hl, h1 => by
    have hi : o + i < cur.size := by simp at hl; omega
    have hadd : (⟨g, o, none⟩ : Addr).add i = ⟨g, o + i, none⟩ := by unfold Addr.add; split <;> simp_all
    have hcell : w.cell? ⟨g, o + i, none⟩ = some cur[o + i] := by simp [World.cell?, hg, hi]
    have hfro : w.frozen? ⟨g, o + i, none⟩ = false := by
      have hn := hfz (o + i) (Nat.le_refl _) hi
      obtain ⟨lo, up⟩ := fz
      simp only [World.frozen?, hg, Bool.and_eq_false_iff, decide_eq_false_iff_not]
      simp only at hn
      omega
    have hst : (store ((⟨g, o, none⟩ : Addr).add i) v).run P w = .ok () (w.setRow g (cur.setIfInBounds (o + i) v)) := by
      rw [hadd, run_store P w _ v _ (h1 v (by simp)), hcell]
      simp [hfro, setCell_eq_setRow w g (o + i) cur t fz v hg]
    have ih := store_free P g o t fz rest (i + 1) (cur.setIfInBounds (o + i) v) (w.setRow g (cur.setIfInBounds (o + i) v)) (setRow_heap w g cur _ t _ hg) (fun j h2 h3 => hfz j (by omega) (by simpa using h3)) (by simp at hl ⊢; omega) (fun x hx => h1 x (by simp [hx]))
    simp only [storeCells, Sem.run_bind, hst, Result.andThen_ok, ih, setRow_setRow]
    congr 3
    have e := list_seg_step cur.toList (o + i) v rest (by simp at hl ⊢; omega)
    simpa [Array.toList_setIfInBounds, Nat.add_assoc] using e
theorem run_appendB {P : Program} (w : World) (base : Nat) (t u ty e : TypeId) (i : TypeInfo) (ht : P.underlying t = some (.slice e)) (hu : P.underlying u = some .string) (hi : P.info? e = some i) (hz : i.zero = some (.int .u8 0))
    (hsize : i.size = 1) (hby : i.bytes = 1) (v : Value) (n : Nat) (xs : List Value) (hown : OwnB w base e v n xs) (s : ByteArray)
    (h63 : n + s.size ≤ maxLen) (hbytes : n + s.size ≤ 140737488355328) (hbase : base ≤ w.heap.size) :
    ∃ v' w', (Builtin.append_ #[t, u] ty #[v, .string s]).run P w = .ok v' w' ∧ OwnB w' base e v' (n + s.size) (xs ++ Lib.strCells s) ∧ w.grownBy w' v.ownBlock := by
  obtain ⟨hxl, g, cap, cur, fz, rfl, hbg, hg, hfz, hnc, hcm, hcs, htake⟩ := hown
  have hlen : (xs ++ Lib.strCells s).length = n + s.size := by rw [List.length_append, hxl, Lib.strCells_length]
  by_cases hroom : n + s.size ≤ cap
  · have hf := Lib.run_firstCells_string (P := P) w 1 s
    have hst := store_free P g n e fz (Lib.strCells s) 0 cur w hg (fun j h2 h3 => hfz j (by omega) h3) (by simp only [Lib.strCells_length]; omega) (Lib.strCells_oneCell s)
    simp only [Nat.add_zero, Lib.strCells_length] at hst
    have hr : (Builtin.append_ #[t, u] ty #[.slice (some ⟨g, 0, none⟩) n cap, .string s]).run P w =
        .ok (.slice (some ⟨g, 0, none⟩) (n + s.size) cap) (w.setRow g (cur.toList.take n ++ Lib.strCells s ++ cur.toList.drop (n + s.size)).toArray) := by
      simp [Builtin.append_, run_underlying ht, run_underlying hu, sizeOf, typeInfo, hi, hsize, Builtin.lenOf, hroom, hf, Addr.add_lit, hst]
    have hsz : (cur.toList.take n ++ Lib.strCells s ++ cur.toList.drop (n + s.size)).toArray.size = cur.size := by
      simp only [List.size_toArray, List.length_append, List.length_take, List.length_drop, Array.length_toList, Lib.strCells_length]
      omega
    refine ⟨_, _, hr, ⟨hlen, g, cap, _, fz, rfl, hbg, setRow_heap w g cur _ e _ hg, ?_, hroom, hcm, ?_, ?_⟩, ⟨rfl, rfl, rfl, by simp, fun k _ hk => setRow_other w g k _ (fun e => hk (by simp [Value.ownBlock, e]))⟩⟩
    · intro j h2 h3
      rw [hsz] at h3
      exact hfz j (by omega) h3
    · rw [hsz]; exact hcs
    · rw [htake, ← hlen]
      exact List.take_left
  · have holds : ∀ j u, xs[j]? = some u → w.cell? ((⟨g, 0, none⟩ : Addr).add j) = some u := by
      intro j u hj
      have hadd : (⟨g, 0, none⟩ : Addr).add j = ⟨g, j, none⟩ := by unfold Addr.add; split <;> simp_all
      rw [hadd]
      have hjl : j < n := by have := (List.getElem?_eq_some_iff.1 hj).1; omega
      rw [← htake, List.getElem?_take_of_lt hjl] at hj
      simp only [World.cell?, hg]
      simpa using hj
    have hr := Lib.run_append_grow_string (P := P) w t u ty e i (.int .u8 0) ht hu hi hz ⟨g, 0, none⟩ n cap xs (by rw [hsize]; simpa using hxl) holds s (by omega) (by unfold maxLen at h63; omega) (by rw [hby]; exact growslice_fits (by omega) (by omega))
    have hge := grownCap_ge w (n + s.size) cap e
    have hcm2 : grownCap w (n + s.size) cap e ≤ maxLen := grownCap_le_maxLen w (n + s.size) cap e h63
    refine ⟨_, _, hr, ⟨hlen, w.heap.size, _, _, (0, 0), rfl, hbase, heap_alloc_new w.drew _, ?_, hge, hcm2, ?_, ?_⟩, ⟨rfl, rfl, rfl, by simp, fun k hk _ => heap_alloc_old w.drew _ hk⟩⟩
    · intro j _ _; simp
    · have hz1 : (Value.int IntKind.u8 0).cells.size = 1 := rfl
      simp only [Array.size_append, List.size_toArray, size_zeroCells, hz1, hxl, Lib.strCells_length]
      omega
    · simp only [Array.toList_append, List.append_assoc]
      rw [← List.append_assoc, ← hlen]
      exact List.take_left
theorem wpList_appendB {P : Program} (w : World) {ops : Array Oper} {rest : List Oper} {o : Oper} {a : Act} {Q : Exit → Act → World → Prop} (hgd : o.guard = none) (sl x : Operand) (t u : TypeId)
    (ho : o.op = .call { callee := .builtin .append, args := #[sl, x], argTypes := #[t, u] })
    (base : Nat) (e : TypeId) (i : TypeInfo) (ht : P.underlying t = some (.slice e)) (hu : P.underlying u = some .string) (hi : P.info? e = some i) (hz : i.zero = some (.int .u8 0))
    (hsize : i.size = 1) (hby : i.bytes = 1)
    (v : Value) (n : Nat) (xs : List Value) (hs : a.eval sl = v) (hown : OwnB w base e v n xs) (s : ByteArray) (hx : a.eval x = .string s)
    (h63 : n + s.size ≤ maxLen) (hbytes : n + s.size ≤ 140737488355328) (hbase : base ≤ w.heap.size)
    (h : ∀ v' w', OwnB w' base e v' (n + s.size) (xs ++ Lib.strCells s) → w.grownBy w' v.ownBlock → wpList P ops Q rest (a.put o.dst v') w') : wpList P ops Q (o :: rest) a w := by
  refine wpList_plain hgd fun K hK => ?_
  obtain ⟨v', w', hr, h2, h3⟩ := run_appendB (P := P) w base t u o.type e i ht hu hi hz hsize hby v n xs hown s h63 hbytes hbase
  unfold Oper.wp execOp
  simp only [ho, resolve, invoke, builtin, Sem.run_bind, Sem.run_pure, Result.andThen_ok, List.map_toArray, List.map_cons, List.map_nil, hs, hx, hr]
  exact hK _ _ (h v' w' h2 h3)
/-- What a conversion of a string leaves is such a row. -/
theorem ownB_of_bytes (w : World) (e : TypeId) (s : ByteArray) (hs : s.size ≤ maxLen) : OwnB (Lib.bytesWorld w e s) w.heap.size e (.slice (some ⟨w.heap.size, 0, none⟩) s.size (grownCap w s.size 0 e)) s.size (Lib.strCells s) := by
  refine ⟨Lib.strCells_length s, w.heap.size, _, _, _, rfl, Nat.le_refl _, Lib.bytesWorld_at_new w e s, ?_, grownCap_ge w s.size 0 e, grownCap_le_maxLen w s.size 0 e hs, ?_, ?_⟩
  · intro i _ h; simp only; omega
  · have := grownCap_ge w s.size 0 e
    simp [Lib.bytesCells]; omega
  · simp [Lib.bytesCells, Lib.strCells]
theorem OwnB.below {w w' : World} {base : Nat} {e : TypeId} {v : Value} {n : Nat} {xs : List Value} (h : OwnB w base e v n xs) (hb : Below w.heap.size w w') : OwnB w' base e v n xs := by
  obtain ⟨h1, g, cap, cur, fz, hv, hbg, hg, r⟩ := h
  have hlt : g < w.heap.size := by
    rcases Nat.lt_or_ge g w.heap.size with h' | h'
    · exact h'
    · simp [Array.getElem?_eq_none h'] at hg
  exact ⟨h1, g, cap, cur, fz, hv, hbg, (hb.block g hlt).trans hg, r⟩
theorem OwnB.lt {w : World} {base : Nat} {e : TypeId} {v : Value} {n : Nat} {xs : List Value} (h : OwnB w base e v n xs) : ∀ k, v.ownBlock = some k → base ≤ k ∧ k < w.heap.size := by
  obtain ⟨h1, g, cap, cur, fz, rfl, hbg, hg, r⟩ := h
  intro k hk
  simp [Value.ownBlock] at hk
  subst hk
  exact ⟨hbg, (Array.getElem?_eq_some_iff.1 hg).1⟩
/-- Such a row, as a string. -/
theorem OwnB.string {P : Program} {w : World} {base : Nat} {e : TypeId} {v : Value} {n : Nat} {l : List UInt8} (h : OwnB w base e v n (Lib.byteCells l)) (src dst : TypeId) (hs : P.underlying src = some (.slice e)) (he : P.underlying e = some (.int .u8)) (hd : P.underlying dst = some .string) :
    (convert src dst v).run P w = .ok (.string ⟨l.toArray⟩) w := by
  obtain ⟨h1, g, cap, cur, fz, rfl, hbg, hg, -, -, -, hcs, htake⟩ := h
  rw [Lib.byteCells_length] at h1
  subst h1
  refine run_convert_bytes_back (P := P) w src dst e ⟨g, 0, none⟩ cap l hs he hd (fun j hj => ?_)
  have hadd : (⟨g, 0, none⟩ : Addr).add j = ⟨g, j, none⟩ := by unfold Addr.add; split <;> simp_all
  rw [hadd]
  have e1 : cur.toList[j]? = (Lib.byteCells l)[j]? := by rw [← htake, List.getElem?_take_of_lt hj]
  simp only [World.cell?, hg]
  rw [← Array.getElem?_toList, e1]
  simp [Lib.byteCells, hj]
theorem OwnB.mono {w : World} {base base' : Nat} {e : TypeId} {v : Value} {n : Nat} {xs : List Value} (h : OwnB w base e v n xs) (hb : base' ≤ base) : OwnB w base' e v n xs := by
  obtain ⟨h1, g, cap, cur, fz, hv, hbg, r⟩ := h
  exact ⟨h1, g, cap, cur, fz, hv, by omega, r⟩
theorem bytesWorld_bel (w : World) (e : TypeId) (s : ByteArray) : Below w.heap.size w (Lib.bytesWorld w e s) :=
  ⟨rfl, rfl, rfl, by rw [Lib.bytesWorld_size]; omega, fun k hk => Lib.bytesWorld_at_old w e s k hk⟩
end Go.Proofs.YtihggfkenhkglaaDoor
namespace Go.Proofs.YtihggfkenhkglaaDoor
set_option maxRecDepth 100000
open Go.RowKit
set_option linter.unusedVariables false
theorem run_appendBS {P : Program} (w : World) (base : Nat) (t ty e : TypeId) (i : TypeInfo) (ht : P.underlying t = some (.slice e)) (hi : P.info? e = some i) (hz : i.zero = some (.int .u8 0))
    (hsize : i.size = 1) (hby : i.bytes = 1) (v : Value) (n : Nat) (xs : List Value) (hown : OwnB w base e v n xs) (ad : Addr) (m c : Nat) (news : List Value) (hl : news.length = m)
    (hnews : ∀ j u, news[j]? = some u → w.cell? (ad.add j) = some u) (h1 : ∀ u ∈ news, u.oneCell' = true) (h63 : n + m ≤ maxLen) (hbytes : n + m ≤ 140737488355328) (hbase : base ≤ w.heap.size) :
    ∃ v' w', (Builtin.append_ #[t, t] ty #[v, .slice (some ad) m c]).run P w = .ok v' w' ∧ OwnB w' base e v' (n + m) (xs ++ news) ∧ w.grownBy w' v.ownBlock := by
  obtain ⟨hxl, g, cap, cur, fz, rfl, hbg, hg, hfz, hnc, hcm, hcs, htake⟩ := hown
  have hlen : (xs ++ news).length = n + m := by rw [List.length_append, hxl, hl]
  by_cases hroom : n + m ≤ cap
  · have hf := run_firstCells_some (P := P) w 1 m ad m c news (by omega) hnews
    have hst := store_free P g n e fz news 0 cur w hg (fun j h2 h3 => hfz j (by omega) h3) (by omega) h1
    simp only [Nat.add_zero, hl] at hst
    have hr : (Builtin.append_ #[t, t] ty #[.slice (some ⟨g, 0, none⟩) n cap, .slice (some ad) m c]).run P w =
        .ok (.slice (some ⟨g, 0, none⟩) (n + m) cap) (w.setRow g (cur.toList.take n ++ news ++ cur.toList.drop (n + m)).toArray) := by
      simp [Builtin.append_, run_underlying ht, sizeOf, typeInfo, hi, hsize, Builtin.lenOf, hroom, hf, Addr.add_lit, hst]
    have hsz : (cur.toList.take n ++ news ++ cur.toList.drop (n + m)).toArray.size = cur.size := by
      simp only [List.size_toArray, List.length_append, List.length_take, List.length_drop, Array.length_toList, hl]
      omega
    refine ⟨_, _, hr, ⟨hlen, g, cap, _, fz, rfl, hbg, setRow_heap w g cur _ e _ hg, ?_, hroom, hcm, ?_, ?_⟩, ⟨rfl, rfl, rfl, by simp, fun k _ hk => setRow_other w g k _ (fun e => hk (by simp [Value.ownBlock, e]))⟩⟩
    · intro j h2 h3
      rw [hsz] at h3
      exact hfz j (by omega) h3
    · rw [hsz]; exact hcs
    · rw [htake, ← hlen]
      exact List.take_left
  · have holds : ∀ j u, xs[j]? = some u → w.cell? ((⟨g, 0, none⟩ : Addr).add j) = some u := by
      intro j u hj
      have hadd : (⟨g, 0, none⟩ : Addr).add j = ⟨g, j, none⟩ := by unfold Addr.add; split <;> simp_all
      rw [hadd]
      have hjl : j < n := by have := (List.getElem?_eq_some_iff.1 hj).1; omega
      rw [← htake, List.getElem?_take_of_lt hjl] at hj
      simp only [World.cell?, hg]
      simpa using hj
    have hr := run_append_grow (P := P) w t ty e i (.int .u8 0) ht hi hz ⟨g, 0, none⟩ n cap xs (by rw [hsize]; simpa using hxl) holds ad m c news (by rw [hsize]; simpa using hl) hnews (by omega) (by unfold maxLen at h63; omega) (by rw [hby]; exact growslice_fits (by omega) (by omega))
    have hge := grownCap_ge w (n + m) cap e
    have hcm2 : grownCap w (n + m) cap e ≤ maxLen := grownCap_le_maxLen w (n + m) cap e h63
    refine ⟨_, _, hr, ⟨hlen, w.heap.size, _, _, (0, 0), rfl, hbase, heap_alloc_new w.drew _, ?_, hge, hcm2, ?_, ?_⟩, ⟨rfl, rfl, rfl, by simp, fun k hk _ => heap_alloc_old w.drew _ hk⟩⟩
    · intro j _ _; simp
    · have hz1 : (Value.int IntKind.u8 0).cells.size = 1 := rfl
      simp only [Array.size_append, List.size_toArray, size_zeroCells, hz1, hxl, hl]
      omega
    · simp only [Array.toList_append, List.append_assoc]
      rw [← List.append_assoc, ← hlen]
      exact List.take_left
theorem wpList_appendBS {P : Program} (w : World) {ops : Array Oper} {rest : List Oper} {o : Oper} {a : Act} {Q : Exit → Act → World → Prop} (hgd : o.guard = none) (sl x : Operand) (t : TypeId)
    (ho : o.op = .call { callee := .builtin .append, args := #[sl, x], argTypes := #[t, t] })
    (base : Nat) (e : TypeId) (i : TypeInfo) (ht : P.underlying t = some (.slice e)) (hi : P.info? e = some i) (hz : i.zero = some (.int .u8 0)) (hsize : i.size = 1) (hby : i.bytes = 1)
    (v : Value) (n : Nat) (xs : List Value) (hs : a.eval sl = v) (hown : OwnB w base e v n xs) (ad : Addr) (m c : Nat) (news : List Value) (hx : a.eval x = .slice (some ad) m c) (hl : news.length = m)
    (hnews : ∀ j u, news[j]? = some u → w.cell? (ad.add j) = some u) (h1 : ∀ u ∈ news, u.oneCell' = true)
    (h63 : n + m ≤ maxLen) (hbytes : n + m ≤ 140737488355328) (hbase : base ≤ w.heap.size)
    (h : ∀ v' w', OwnB w' base e v' (n + m) (xs ++ news) → w.grownBy w' v.ownBlock → wpList P ops Q rest (a.put o.dst v') w') : wpList P ops Q (o :: rest) a w := by
  refine wpList_plain hgd fun K hK => ?_
  obtain ⟨v', w', hr, h2, h3⟩ := run_appendBS (P := P) w base t o.type e i ht hi hz hsize hby v n xs hown ad m c news hl hnews h1 h63 hbytes hbase
  unfold Oper.wp execOp
  simp only [ho, resolve, invoke, builtin, Sem.run_bind, Sem.run_pure, Result.andThen_ok, List.map_toArray, List.map_cons, List.map_nil, hs, hx, hr]
  exact hK _ _ (h v' w' h2 h3)
theorem OwnB.alloc {w : World} {base : Nat} {e : TypeId} {v : Value} {n : Nat} {xs : List Value} (h : OwnB w base e v n xs) (o : Obj) : OwnB (w.alloc o) base e v n xs := by
  obtain ⟨h1, g, cap, cur, fz, hv, hbg, hg, r⟩ := h
  have hlt : g < w.heap.size := (Array.getElem?_eq_some_iff.1 hg).1
  exact ⟨h1, g, cap, cur, fz, hv, hbg, (heap_alloc_old w o hlt).trans hg, r⟩
theorem OwnB.slice {w : World} {base : Nat} {e : TypeId} {v : Value} {n : Nat} {xs : List Value} (h : OwnB w base e v n xs) : ∃ g cap, v = .slice (some ⟨g, 0, none⟩) n cap ∧ base ≤ g ∧ g < w.heap.size := by
  obtain ⟨h1, g, cap, cur, fz, hv, hbg, hg, r⟩ := h
  exact ⟨g, cap, hv, hbg, (Array.getElem?_eq_some_iff.1 hg).1⟩
/-- An owned row of bytes, as a string. -/
theorem owns_string {P : Program} {w : World} {base : Nat} {e : TypeId} {v : Value} {n : Nat} {l : List UInt8} (h : w.ownsRow base e 1 v n (Lib.byteCells l)) (hl : 0 < l.length) (src dst : TypeId) (hs : P.underlying src = some (.slice e)) (he : P.underlying e = some (.int .u8)) (hd : P.underlying dst = some .string) :
    (convert src dst v).run P w = .ok (.string ⟨l.toArray⟩) w := by
  have h0 := h
  obtain ⟨h1, h2⟩ := h
  rw [Lib.byteCells_length, Nat.mul_one] at h1
  subst h1
  rcases h2 with ⟨rfl, hn⟩ | ⟨g, cap, cur, rfl, hbg, hg, r⟩
  · omega
  · refine run_convert_bytes_back (P := P) w src dst e ⟨g, 0, none⟩ cap l hs he hd (fun j hj => ?_)
    exact h0.cells (g := g) rfl j _ (by simp [Lib.byteCells, hj])
end Go.Proofs.YtihggfkenhkglaaDoor
namespace Go.Proofs.YtihggfkenhkglaaDoor
set_option maxRecDepth 100000
open Go.RowKit
set_option linter.unusedVariables false
theorem xor_rng (a b : Int) : 0 ≤ bits .xor .u32 a b ∧ bits .xor .u32 a b < 4294967296 := by
  show 0 ≤ IntKind.u32.wrap ((BitVec.ofInt 32 a ^^^ BitVec.ofInt 32 b).toNat : Int) ∧ IntKind.u32.wrap ((BitVec.ofInt 32 a ^^^ BitVec.ofInt 32 b).toNat : Int) < 4294967296
  rw [IntKind.wrap_u32']
  omega
theorem hx_rng (H V : List Int) (i : Nat) (hi : i < 8) : 0 ≤ at_ (hx H V 8) i ∧ at_ (hx H V 8) i < 4294967296 := by
  have e : at_ (hx H V 8) i = bits .xor .u32 (at_ H i) (bits .xor .u32 (at_ V i) (at_ V (i + 8))) := by
    rw [← at_eq (hx H V 8) i (by rw [hx_len]; exact hi)]
    simp [hx, hi]
  rw [e]
  exact xor_rng _ _
theorem foldL_rng (H : List Int) (S : List UInt8) (i : Nat) (hi : i < 8) : 0 ≤ at_ (foldL H S) i ∧ at_ (foldL H S) i < 4294967296 := hx_rng _ _ i hi
theorem fl_get (H : List Int) (i : Nat) (hi : i < (fl H 32).length) : (((fl H 32)[i]'hi).toNat : Int) = at_ H (i / 4) / 2 ^ (8 * (i % 4)) % 256 := by
  have h32 : i < 32 := by rw [fl_len] at hi; exact hi
  simp only [fl, List.getElem_map, List.getElem_range, if_pos h32]
  simp; omega
/-- The word of four bytes of a sum. -/
theorem fl_word (H : List Int) (i : Nat) (hi : i < 8) (h0 : 0 ≤ at_ H i) (h1 : at_ H i < 4294967296) (g0 : 4 * i < (fl H 32).length) (g1 : 4 * i + 1 < (fl H 32).length) (g2 : 4 * i + 2 < (fl H 32).length) (g3 : 4 * i + 3 < (fl H 32).length) :
    (((fl H 32)[4 * i]'g0).toNat : Int) + 256 * (((fl H 32)[4 * i + 1]'g1).toNat : Int) + 65536 * (((fl H 32)[4 * i + 2]'g2).toNat : Int) + 16777216 * (((fl H 32)[4 * i + 3]'g3).toNat : Int) = at_ H i := by
  rw [fl_get, fl_get, fl_get, fl_get, show 4 * i / 4 = i by omega, show (4 * i + 1) / 4 = i by omega, show (4 * i + 2) / 4 = i by omega, show (4 * i + 3) / 4 = i by omega, show 4 * i % 4 = 0 by omega, show (4 * i + 1) % 4 = 1 by omega, show (4 * i + 2) % 4 = 2 by omega, show (4 * i + 3) % 4 = 3 by omega]
  simp only [Nat.mul_zero, Nat.mul_one, Int.pow_zero, show (2 : Int) ^ 8 = 256 from rfl, show (2 : Int) ^ (8 * 2) = 65536 from rfl, show (2 : Int) ^ (8 * 3) = 16777216 from rfl]
  omega
theorem padL_step (P : List UInt8) (h : P.length < 64) : padL (P ++ [0]) = padL P := by
  unfold padL
  rw [List.append_assoc]
  congr 1
  rw [show 64 - P.length = (64 - (P ++ [0]).length) + 1 by simp; omega, List.replicate_succ]; rfl
theorem padL_full (P : List UInt8) (h : P.length = 64) : padL P = P := by simp [padL, h]
theorem foldL_of (H : List Int) (S T : List UInt8) (k : Nat) (h1 : k = 0 ∨ 64 * k < S.length) (h2 : S.length ≤ 64 * k + 64) (hT : T = S.drop (64 * k)) (P : List UInt8) (hP : P.length = 64) (hp : padL P = padL T) :
    foldL H S = blockL (fk H S k) P S.length true := by
  unfold foldL
  rw [nb_of S k h1 h2, ← hT, ← hp, padL_full P hP]
theorem drop_next (S T : List UInt8) (k : Nat) (hT : T = S.drop (64 * k)) : T.drop 64 = S.drop (64 * (k + 1)) := by
  rw [hT, List.drop_drop]; rfl
end Go.Proofs.YtihggfkenhkglaaDoor
namespace Go.Proofs.YtihggfkenhkglaaDoor
set_option maxRecDepth 100000
open Go.RowKit
set_option linter.unusedVariables false
attribute [local go_sem] ba_size ba_get
def vlen : Value → Nat
  | .slice _ n _ => n
  | _ => 0
set_option maxHeartbeats 1000000 in
theorem rpad_any (S : List UInt8) (hS : S.length ≤ 64) (w : World) :
    Calls Tryd.prog 39 #[.string ⟨S.toArray⟩] w fun e w' => e = .returned (.string ⟨(padL S).toArray⟩) ∧ Below w.heap.size w w' := by
  obtain ⟨i0, hi, hz0, hz1, hz2⟩ := info_parts byte_info
  have hcv := Lib.run_convert_string_bytes (P := Tryd.prog) w 9 71 5 ⟨S.toArray⟩ Tryd.underlying9 Tryd.underlying71 Tryd.underlying5
  have HO0 : OwnB (Lib.bytesWorld w 5 ⟨S.toArray⟩) w.heap.size 5 (.slice (some ⟨w.heap.size, 0, none⟩) S.length (grownCap w S.length 0 5)) S.length (Lib.byteCells S) := by
    have h := ownB_of_bytes w 5 ⟨S.toArray⟩ (by rw [ba_size]; unfold maxLen; omega)
    rw [strCells_list, ba_size] at h
    exact h
  rw [ba_size] at hcv
  have hb0 := bytesWorld_bel w 5 ⟨S.toArray⟩
  go_enter Tryd.func39, Tryd.ntmps39
  go_wp2_with fail
  obtain ⟨w1, hw1⟩ : ∃ w1, Lib.bytesWorld w 5 ⟨S.toArray⟩ = w1 := ⟨_, rfl⟩
  rw [hw1] at HO0 hb0 ⊢
  clear hw1 hcv
  go_loopw [3] (fun v wr => ∃ P : List UInt8, P.length ≤ 64 ∧ Hid (padL P = padL S) ∧ Hid (OwnB wr w.heap.size 5 v P.length (Lib.byteCells P)) ∧ Below w.heap.size w wr) (fun v _ => 64 - vlen v)
  case atStart => exact ⟨S, hS, (rfl : _ = _), HO0, hb0⟩
  case round =>
    obtain ⟨P, hP, hp, HO, hbw⟩ := hrel
    obtain ⟨g, cap, rfl, hg1, hg2⟩ := HO.out.slice
    have hbs := hbw.size
    by_cases hlt : P.length < 64
    · have i0' : (P.length : Int) < 64 := by omega
      go_wp2_with (at_builtin; refine wpList_appendBS _ rfl _ _ 71 rfl w.heap.size 5 i0 Tryd.underlying71 hi hz0 hz1 hz2 _ _ _ rfl (HO.out.alloc _) ⟨wr.heap.size, 0, none⟩ 1 1 [.int .u8 0] rfl rfl ?d1 ?d2 ?d3 ?d4 ?d5 ?_)
      case d1 =>
        intro j u hj
        match j, hj with
        | 0, hj => simp at hj; subst hj; simp [Addr.add]
      case d2 => intro u hu; simp at hu; subst hu; rfl
      case d3 => unfold maxLen; omega
      case d4 => omega
      case d5 => simp; omega
      intro v' w2 hown' hgrow
      obtain ⟨g', cap', rfl, hg3, hg4⟩ := hown'.slice
      have hbn : Below w.heap.size w w2 := (hbw.alloc hbs _).grown hgrow (by simp; omega) (fun j hj => (HO.out.lt j hj).1)
      go_wp2_with fail
      refine ⟨?relP, ?measureP⟩
      case relP =>
        refine ⟨P ++ [0], by simp; omega, (padL_step P hlt).trans hp.out, ?_, hbn⟩
        have e : Lib.byteCells (P ++ [0]) = Lib.byteCells P ++ [.int .u8 0] := by simp [Lib.byteCells]
        rw [e, List.length_append]
        exact hown'
      case measureP => simp [vlen]; omega
    · have hP64 : P.length = 64 := by omega
      have i0' : ¬ (P.length : Int) < 64 := by omega
      have hst := HO.out.string (P := Tryd.prog) 71 9 Tryd.underlying71 Tryd.underlying5 Tryd.underlying9
      rw [hP64] at hst
      go_wp2_with fail
      go_ret
      exact ⟨by rw [← hp.out, padL_full P hP64]; rfl, hbw⟩
end Go.Proofs.YtihggfkenhkglaaDoor
namespace Go.Proofs.YtihggfkenhkglaaDoor
set_option maxRecDepth 100000
open Go.RowKit
set_option linter.unusedVariables false
attribute [local go_sem] ba_size ba_get ba_extract take_drop_end wv_get wv_getE wv_set wv_size
theorem rwv8 (H : List Int) (h : H.length = 8) : wv H = #[.int .u32 (at_ H 0), .int .u32 (at_ H 1), .int .u32 (at_ H 2), .int .u32 (at_ H 3), .int .u32 (at_ H 4), .int .u32 (at_ H 5), .int .u32 (at_ H 6), .int .u32 (at_ H 7)] := by
  match H, h with
  | [a, b, c, d, e, f, g, i], _ => rfl
theorem fl_at (H : List Int) (i q : Nat) (hq : q < 4) (h : 4 * i + q < (fl H 32).length) : (fl H 32)[4 * i + q]'h = UInt8.ofNat (at_ H i / 256 ^ q % 256).toNat := by
  have h32 : 4 * i + q < 32 := by rw [fl_len] at h; exact h
  simp only [fl, List.getElem_map, List.getElem_range, if_pos h32]
  rw [show (4 * i + q) / 4 = i by omega, show (4 * i + q) % 4 = q by omega, Int.pow_mul]
  rfl
set_option maxRecDepth 100000 in
set_option maxHeartbeats 8000000 in
theorem rall_any (H : List Int) (hH : H.length = 8) (S : List UInt8) (hS : S.length ≤ 9223372036854775000) (w : World) :
    Calls Tryd.prog 38 #[.agg (wv H), .string ⟨S.toArray⟩] w fun e w' => e = .returned (.string ⟨(fl (foldL H S) 32).toArray⟩) ∧ Below w.heap.size w w' := by
  have hHs : (wv H).size = 8 := by rw [wv_size, hH]
  have s8 := rsize8_true
  obtain ⟨i0, hi, hz0, hz1, hz2⟩ := info_parts byte_info
  go_enter Tryd.func38, Tryd.ntmps38
  go_wp2
  go_loopw [5] (fun i wr => ∃ k : Nat, Hid (k = 0 ∨ 64 * k < S.length) ∧ i = .int .i64 (64 * (k : Int)) ∧ Hid (Row wr w.heap.size 67 (fk H S k)) ∧ Below w.heap.size w wr) (fun i _ => S.length - (intOf i).toNat)
  case atStart => exact ⟨0, (Or.inl rfl : _ ∨ _), rfl, heap_alloc_new w _, (Below.refl _ _).alloc (Nat.le_refl _) _⟩
  case round =>
    obtain ⟨k, hk, rfl, HR, hbw⟩ := hrel
    have lk := fk_len H S hH k
    have hrow : wr.heap[w.heap.size]? = some (.cells (wv (fk H S k)) 67 (0, 0)) := HR.out
    have hgl : w.heap.size < wr.heap.size := HR.out.lt
    have hkS : 64 * k ≤ S.length := by have := hk.out; omega
    have y0 : IntKind.i64.wrap (64 * (k : Int) + 64) = 64 * (k : Int) + 64 := by rw [IntKind.wrap_i64]; omega
    by_cases hlt : 64 * k + 64 < S.length
    · have i1 : 64 * (k : Int) + 64 < (S.length : Int) := by omega
      have i2 : 64 * (k : Int) + 64 ≤ (S.length : Int) := by omega
      have i3 : (0 : Int) ≤ 64 * (k : Int) := by omega
      have i5 : (64 * (k : Int)).toNat = 64 * k := by omega
      have i6 : (64 * (k : Int) + 64).toNat = 64 * k + 64 := by omega
      have i7 : 64 * (k : Int) ≤ 64 * (k : Int) + 64 := by omega
      have e64 : 64 * k + 64 - 64 * k = 64 := by omega
      have y1 : IntKind.u64.wrap (64 * (k : Int) + 64) = 64 * (k : Int) + 64 := by rw [IntKind.wrap_u64]; omega
      have lb : ((S.drop (64 * k)).take 64).length = 64 := by simp; omega
      have lk1 := fk_len H S hH (k + 1)
      obtain ⟨H1, hH1⟩ : ∃ H1, fk H S (k + 1) = H1 := ⟨_, rfl⟩
      have hC : ∀ w1, Calls Tryd.prog 51 #[.agg #[.int .u32 (at_ (fk H S k) 0), .int .u32 (at_ (fk H S k) 1), .int .u32 (at_ (fk H S k) 2), .int .u32 (at_ (fk H S k) 3), .int .u32 (at_ (fk H S k) 4), .int .u32 (at_ (fk H S k) 5), .int .u32 (at_ (fk H S k) 6), .int .u32 (at_ (fk H S k) 7)], .string ⟨((S.drop (64 * k)).take 64).toArray⟩, .int .u64 (64 * (k : Int) + 64), .bool false] w1 fun e w' => e = .returned (.tuple #[.agg (wv H1), .int .i64 0]) ∧ Below w1.heap.size w1 w' := fun w1 => by
        have h := rblock_good (fk H S k) lk ((S.drop (64 * k)).take 64) lb (64 * (k + 1)) (by omega) false w1
        rw [show ((64 * (k + 1) : Nat) : Int) = 64 * (k : Int) + 64 by omega, rwv8 (fk H S k) lk, show blockL (fk H S k) ((S.drop (64 * k)).take 64) (64 * (k + 1)) false = H1 by rw [← hH1]; rfl] at h
        exact h
      rw [hH1] at lk1
      have hsz1 : (Tryd.prog.info? 67).map (·.size) = some (wv H1).size := by rw [s8, wv_size, lk1]
      have c0 : (wr).cell? ⟨w.heap.size, 0, none⟩ = some (.int .u32 (at_ (fk H S k) 0)) := by rw [(HR.out).cell 0 (by omega), at_eq]
      have c1 : (wr).cell? ⟨w.heap.size, 1, none⟩ = some (.int .u32 (at_ (fk H S k) 1)) := by rw [(HR.out).cell 1 (by omega), at_eq]
      have c2 : (wr).cell? ⟨w.heap.size, 2, none⟩ = some (.int .u32 (at_ (fk H S k) 2)) := by rw [(HR.out).cell 2 (by omega), at_eq]
      have c3 : (wr).cell? ⟨w.heap.size, 3, none⟩ = some (.int .u32 (at_ (fk H S k) 3)) := by rw [(HR.out).cell 3 (by omega), at_eq]
      have c4 : (wr).cell? ⟨w.heap.size, 4, none⟩ = some (.int .u32 (at_ (fk H S k) 4)) := by rw [(HR.out).cell 4 (by omega), at_eq]
      have c5 : (wr).cell? ⟨w.heap.size, 5, none⟩ = some (.int .u32 (at_ (fk H S k) 5)) := by rw [(HR.out).cell 5 (by omega), at_eq]
      have c6 : (wr).cell? ⟨w.heap.size, 6, none⟩ = some (.int .u32 (at_ (fk H S k) 6)) := by rw [(HR.out).cell 6 (by omega), at_eq]
      have c7 : (wr).cell? ⟨w.heap.size, 7, none⟩ = some (.int .u32 (at_ (fk H S k) 7)) := by rw [(HR.out).cell 7 (by omega), at_eq]
      go_wp2_with fail
      refine wp_region_any (by kernel_rfl) ?_
      change wpAny _ _ _ _ _ _ _ (World.drew _)
      refine wpAny_take (i := 1) (v := .string ⟨S.toArray⟩) rfl (by kernel_rfl) (by kernel_rfl) (by kernel_rfl) (fun _ _ _ h => h) (Or.inl ⟨by rfl, fun w => by go_simp⟩) ?_
      refine wpAny_take (i := 2) (v := .int .i64 (64 * (k : Int))) rfl (by kernel_rfl) (by kernel_rfl) (by kernel_rfl) (fun _ _ _ h => h) (Or.inl ⟨by rfl, fun w => by go_simp⟩) ?_
      refine wpAny_take (i := 3) (v := .int .i64 (64 * (k : Int))) rfl (by kernel_rfl) (by kernel_rfl) (by kernel_rfl) (fun _ _ _ h => h) (Or.inl ⟨by rfl, fun w => by go_simp⟩) ?_
      refine wpAny_take (i := 4) (v := .int .i64 (64 * (k : Int) + 64)) rfl (by kernel_rfl) (by kernel_rfl) (by kernel_rfl) (fun _ _ _ h => h) (Or.inl ⟨by rfl, fun w => by go_simp⟩) ?_
      refine wpAny_take (i := 5) (v := .string ⟨((S.drop (64 * k)).take 64).toArray⟩) rfl (by kernel_rfl) (by kernel_rfl) (by kernel_rfl) (fun _ _ _ h => h) (Or.inl ⟨by rfl, fun w => by go_simp⟩) ?_
      refine wpAny_take (i := 6) (v := .int .i64 (64 * (k : Int))) rfl (by kernel_rfl) (by kernel_rfl) (by kernel_rfl) (fun _ _ _ h => h) (Or.inl ⟨by rfl, fun w => by go_simp⟩) ?_
      refine wpAny_take (i := 7) (v := .int .i64 (64 * (k : Int) + 64)) rfl (by kernel_rfl) (by kernel_rfl) (by kernel_rfl) (fun _ _ _ h => h) (Or.inl ⟨by rfl, fun w => by go_simp⟩) ?_
      refine wpAny_take (i := 8) (v := .int .u64 (64 * (k : Int) + 64)) rfl (by kernel_rfl) (by kernel_rfl) (by kernel_rfl) (fun _ _ _ h => h) (Or.inl ⟨by rfl, fun w => by go_simp⟩) ?_
      refine wpAny_ready (rs := [0]) (by kernel_rfl) (by simp) ?_
      refine AllReady.cons rfl (fun K' hK => ?_) AllReady.nil
      go_simp
      refine hK _ _ ?_
      clear hK K'
      refine wpAny_ready (rs := [9]) (by kernel_rfl) (by simp) ?_
      refine AllReady.cons rfl (fun K' hK => ?_) AllReady.nil
      go_simp
      refine (hC wr.drew).mono ?_
      rintro e w1 ⟨rfl, hb1⟩
      have hs1 : wr.heap.size ≤ w1.heap.size := hb1.size
      have hr1 : w1.heap[w.heap.size]? = some (.cells (wv (fk H S k)) 67 (0, 0)) := (hb1.block _ hgl).trans hrow
      have hbw1 : Below w.heap.size w w1 := hbw.drew.trans (hb1.mono (by show w.heap.size ≤ wr.heap.size; omega))
      refine hK _ _ ?_
      clear hK K'
      refine wpAny_take (i := 10) (v := .tuple #[.agg (wv H1), .int .i64 0]) rfl (by kernel_rfl) (by kernel_rfl) (by kernel_rfl) (fun _ _ _ h => h) (Or.inl ⟨by rfl, fun w => by go_simp⟩) ?_
      refine wpAny_take (i := 11) (v := .agg (wv H1)) rfl (by kernel_rfl) (by kernel_rfl) (by kernel_rfl) (fun _ _ _ h => h) (Or.inl ⟨by rfl, fun w => by go_simp⟩) ?_
      refine wpAny_take (i := 12) (v := .int .i64 0) rfl (by kernel_rfl) (by kernel_rfl) (by kernel_rfl) (fun _ _ _ h => h) (Or.inl ⟨by rfl, fun w => by go_simp⟩) ?_
      refine any_seqI [13] [_] _ _ _ rfl (by kernel_rfl) ?_
      refine wpList_store_row rfl 67 _ _ rfl w.heap.size (wv H1) rfl rfl 67 (wv (fk H S k)) hr1 hsz1 (by rw [wv_size, wv_size, lk, lk1]) (wv_one _) ?_
      have rh3 : (w1.setRow w.heap.size (wv H1)).heap[w.heap.size]? = some (.cells (wv H1) 67 (0, 0)) := setRow_heap _ _ _ _ _ _ hr1
      have hb3 : Below w.heap.size w (w1.setRow w.heap.size (wv H1)) := below_setRow hbw1 (by omega) _
      obtain ⟨w3, hw3⟩ : ∃ w3, w1.setRow w.heap.size (wv H1) = w3 := ⟨_, rfl⟩
      change wpList _ _ _ _ _ (w1.setRow w.heap.size (wv H1))
      rw [hw3] at rh3 hb3 ⊢
      clear hw3
      go_wp2_with fail
      refine ⟨?relA, ?measureA⟩
      case relA => exact ⟨k + 1, (Or.inr (by omega) : _ ∨ _), by first | go_num | omega, by rw [hH1]; exact rh3, hb3⟩
      case measureA => simp [intOf]; omega
    · have i1 : ¬ 64 * (k : Int) + 64 < (S.length : Int) := by omega
      have i2 : 64 * (k : Int) ≤ (S.length : Int) := by omega
      have i3 : (0 : Int) ≤ 64 * (k : Int) := by omega
      have i5 : (64 * (k : Int)).toNat = 64 * k := by omega
      have y1 : IntKind.u64.wrap (S.length : Int) = S.length := by rw [IntKind.wrap_u64]; omega
      have hnb : nb S = k := nb_of S k hk.out (by omega)
      have ld : (S.drop (64 * k)).length ≤ 64 := by simp; omega
      have hfold : foldL H S = blockL (fk H S k) (padL (S.drop (64 * k))) S.length true := by unfold foldL; rw [hnb]
      have lp := padL_len _ ld
      have lr := foldL_len H S
      have rng := foldL_rng H S
      obtain ⟨R, hR⟩ : ∃ R, foldL H S = R := ⟨_, rfl⟩
      have hC : ∀ w1, Calls Tryd.prog 51 #[.agg #[.int .u32 (at_ (fk H S k) 0), .int .u32 (at_ (fk H S k) 1), .int .u32 (at_ (fk H S k) 2), .int .u32 (at_ (fk H S k) 3), .int .u32 (at_ (fk H S k) 4), .int .u32 (at_ (fk H S k) 5), .int .u32 (at_ (fk H S k) 6), .int .u32 (at_ (fk H S k) 7)], .string ⟨(padL (S.drop (64 * k))).toArray⟩, .int .u64 S.length, .bool true] w1 fun e w' => e = .returned (.tuple #[.agg (wv R), .int .i64 0]) ∧ Below w1.heap.size w1 w' := fun w1 => by
        have h := rblock_good (fk H S k) lk (padL (S.drop (64 * k))) lp S.length (by omega) true w1
        rw [rwv8 (fk H S k) lk, ← hfold, hR] at h
        exact h
      obtain ⟨D, hDD⟩ : ∃ D, fl R 32 = D := ⟨_, rfl⟩
      have hDg : ∀ i q, q < 4 → ∀ h : 4 * i + q < D.length, D[4 * i + q]'h = UInt8.ofNat (at_ R i / 256 ^ q % 256).toNat := by intro i q hq h; subst hDD; exact fl_at R i q hq h
      have lD : D.length = 32 := by rw [← hDD]; exact fl_len R 32
      have HD : Hid (fl (foldL H S) 32 = D) := by rw [hR]; exact hDD
      rw [hR] at lr rng
      have hszR : (Tryd.prog.info? 67).map (·.size) = some (wv R).size := by rw [s8, wv_size, lr]
      clear hfold hR hnb hDD
      have c0 : (wr).cell? ⟨w.heap.size, 0, none⟩ = some (.int .u32 (at_ (fk H S k) 0)) := by rw [(HR.out).cell 0 (by omega), at_eq]
      have c1 : (wr).cell? ⟨w.heap.size, 1, none⟩ = some (.int .u32 (at_ (fk H S k) 1)) := by rw [(HR.out).cell 1 (by omega), at_eq]
      have c2 : (wr).cell? ⟨w.heap.size, 2, none⟩ = some (.int .u32 (at_ (fk H S k) 2)) := by rw [(HR.out).cell 2 (by omega), at_eq]
      have c3 : (wr).cell? ⟨w.heap.size, 3, none⟩ = some (.int .u32 (at_ (fk H S k) 3)) := by rw [(HR.out).cell 3 (by omega), at_eq]
      have c4 : (wr).cell? ⟨w.heap.size, 4, none⟩ = some (.int .u32 (at_ (fk H S k) 4)) := by rw [(HR.out).cell 4 (by omega), at_eq]
      have c5 : (wr).cell? ⟨w.heap.size, 5, none⟩ = some (.int .u32 (at_ (fk H S k) 5)) := by rw [(HR.out).cell 5 (by omega), at_eq]
      have c6 : (wr).cell? ⟨w.heap.size, 6, none⟩ = some (.int .u32 (at_ (fk H S k) 6)) := by rw [(HR.out).cell 6 (by omega), at_eq]
      have c7 : (wr).cell? ⟨w.heap.size, 7, none⟩ = some (.int .u32 (at_ (fk H S k) 7)) := by rw [(HR.out).cell 7 (by omega), at_eq]
      go_wp2_with fail
      refine wp_region_any (by kernel_rfl) ?_
      change wpAny _ _ _ _ _ _ _ (World.drew _)
      refine wpAny_take (i := 1) (v := .string ⟨S.toArray⟩) rfl (by kernel_rfl) (by kernel_rfl) (by kernel_rfl) (fun _ _ _ h => h) (Or.inl ⟨by rfl, fun w => by go_simp⟩) ?_
      refine wpAny_take (i := 2) (v := .int .i64 (64 * (k : Int))) rfl (by kernel_rfl) (by kernel_rfl) (by kernel_rfl) (fun _ _ _ h => h) (Or.inl ⟨by rfl, fun w => by go_simp⟩) ?_
      refine wpAny_take (i := 3) (v := .string ⟨(S.drop (64 * k)).toArray⟩) rfl (by kernel_rfl) (by kernel_rfl) (by kernel_rfl) (fun _ _ _ h => h) (Or.inl ⟨by rfl, fun w => by go_simp⟩) ?_
      refine wpAny_take (i := 5) (v := .string ⟨S.toArray⟩) rfl (by kernel_rfl) (by kernel_rfl) (by kernel_rfl) (fun _ _ _ h => h) (Or.inl ⟨by rfl, fun w => by go_simp⟩) ?_
      refine wpAny_take (i := 6) (v := .int .i64 S.length) rfl (by kernel_rfl) (by kernel_rfl) (by kernel_rfl) (fun _ _ _ h => h) (Or.inl ⟨by rfl, fun w => by go_simp⟩) ?_
      refine wpAny_take (i := 7) (v := .int .u64 S.length) rfl (by kernel_rfl) (by kernel_rfl) (by kernel_rfl) (fun _ _ _ h => h) (Or.inl ⟨by rfl, fun w => by go_simp⟩) ?_
      refine wpAny_ready (rs := [0, 4]) (by kernel_rfl) (by simp) ?_
      refine AllReady.cons rfl (fun K' hK => ?_) ?_
      · go_simp
        refine hK _ _ ?_
        clear hK K'
        refine wpAny_ready (rs := [4]) (by kernel_rfl) (by simp) ?_
        refine AllReady.cons rfl (fun K' hK => ?_) AllReady.nil
        go_simp
        refine (rpad_any _ ld _).mono ?_
        rintro e w2 ⟨rfl, hb2⟩
        have hR2 : Row w2 w.heap.size 67 (fk H S k) := (hb2.block _ hgl).trans hrow
        have hbw2 : Below w.heap.size w w2 := hbw.drew.trans (hb2.mono (by show w.heap.size ≤ wr.heap.size; omega))
        refine hK _ _ ?_
        clear hK K'
        refine wpAny_ready (rs := [8]) (by kernel_rfl) (by simp) ?_
        refine AllReady.cons rfl (fun K' hK => ?_) AllReady.nil
        go_simp
        refine (hC w2).mono ?_
        rintro e w4 ⟨rfl, hb4⟩
        have hr4 : w4.heap[w.heap.size]? = some (.cells (wv (fk H S k)) 67 (0, 0)) := (hb4.block _ hR2.lt).trans hR2
        have hbw4 : Below w.heap.size w w4 := hbw2.trans (hb4.mono hbw2.size)
        refine hK _ _ ?_
        clear hK K'
        refine wpAny_take (i := 9) (v := .tuple #[.agg (wv R), .int .i64 0]) rfl (by kernel_rfl) (by kernel_rfl) (by kernel_rfl) (fun _ _ _ h => h) (Or.inl ⟨by rfl, fun w => by go_simp⟩) ?_
        refine wpAny_take (i := 10) (v := .agg (wv R)) rfl (by kernel_rfl) (by kernel_rfl) (by kernel_rfl) (fun _ _ _ h => h) (Or.inl ⟨by rfl, fun w => by go_simp⟩) ?_
        refine wpAny_take (i := 11) (v := .int .i64 0) rfl (by kernel_rfl) (by kernel_rfl) (by kernel_rfl) (fun _ _ _ h => h) (Or.inl ⟨by rfl, fun w => by go_simp⟩) ?_
        refine any_seqI [12] [_] _ _ _ rfl (by kernel_rfl) ?_
        refine wpList_store_row rfl 67 _ _ rfl w.heap.size (wv R) rfl rfl 67 (wv (fk H S k)) hr4 hszR (by rw [wv_size, wv_size, lk, lr]) (wv_one _) ?_
        have rh5 : (w4.setRow w.heap.size (wv R)).heap[w.heap.size]? = some (.cells (wv R) 67 (0, 0)) := setRow_heap _ _ _ _ _ _ hr4
        have hb5 : Below w.heap.size w (w4.setRow w.heap.size (wv R)) := below_setRow hbw4 (by omega) _
        obtain ⟨w5, hw5⟩ : ∃ w5, w4.setRow w.heap.size (wv R) = w5 := ⟨_, rfl⟩
        change wpList _ _ _ _ _ (w4.setRow w.heap.size (wv R))
        rw [hw5] at rh5 hb5 ⊢
        clear hw5
        go_wp2_with fail
        have hlt5 : w.heap.size < w5.heap.size := Row.lt rh5
        go_loopw [6, 7] (fun v i wq => ∃ j : Nat, j ≤ 8 ∧ i = .int .i64 j ∧ Hid (wq.ownsRow w5.heap.size 5 1 v (4 * j) (Lib.byteCells (D.take (4 * j)))) ∧ Hid (Row wq w.heap.size 67 R) ∧ Below w.heap.size w wq ∧ w5.heap.size ≤ wq.heap.size) (fun _ i _ => 8 - (intOf i).toNat)
        case atStart => exact ⟨0, by omega, rfl, World.ownsRow_nil _ _ _ _, rh5, hb5, Nat.le_refl _⟩
        case round =>
          obtain ⟨j, hj, rfl, HO, HR7, hbw7, hs7⟩ := hrel
          by_cases hl3 : j < 8
          · have i4 : (j : Int) < 8 := by omega
            have rj := rng j hl3
            have c0 : wr.cell? ⟨w.heap.size, j, none⟩ = some (.int .u32 (at_ R j)) := by rw [HR7.out.cell j (by omega), at_eq]
            obtain ⟨X, hX⟩ : ∃ X, at_ R j = X := ⟨_, rfl⟩
            have hDX : ∀ q, q < 4 → ∀ h : 4 * j + q < D.length, D[4 * j + q]'h = UInt8.ofNat (X / 256 ^ q % 256).toNat := by
              intro q hq h
              rw [← hX]
              exact hDg j q hq h
            rw [hX] at c0 rj
            clear hX
            go_wp2_with fail
            go_loopw [6, 8, 9] (fun v y i wq => ∃ q : Nat, q ≤ 4 ∧ i = .int .i64 q ∧ y = .int .u32 (X / 256 ^ q) ∧ Hid (wq.ownsRow w5.heap.size 5 1 v (4 * j + q) (Lib.byteCells (D.take (4 * j + q)))) ∧ Hid (Row wq w.heap.size 67 R) ∧ Below w.heap.size w wq ∧ w5.heap.size ≤ wq.heap.size) (fun _ _ i _ => 4 - (intOf i).toNat)
            case atStart => exact ⟨0, by omega, rfl, by simp, HO, HR7, hbw7, hs7⟩
            case round =>
              obtain ⟨q, hq, rfl, rfl, HO, HR8, hbw8, hs8⟩ := hrel
              by_cases hl4 : q < 4
              · have i5 : (q : Int) < 4 := by omega
                have hd := hDX q hl4 (by omega)
                have hnext : X / 256 ^ (q + 1) = X / 256 ^ q / 256 := by rw [Int.pow_succ, Int.ediv_ediv_of_nonneg (Int.pow_nonneg (by omega))]
                have hnn : 0 ≤ X / 256 ^ q := Int.ediv_nonneg rj.1 (Int.pow_nonneg (by omega))
                have hle : X / 256 ^ q < 4294967296 := by
                  have h1 : X / 256 ^ q ≤ X := Int.ediv_le_self _ rj.1
                  omega
                obtain ⟨Y, hY⟩ : ∃ Y, X / 256 ^ q = Y := ⟨_, rfl⟩
                have HN : Hid (X / 256 ^ (q + 1) = Y / 256) := by rw [← hY]; exact hnext
                rw [hY] at hd hnn hle
                simp only [hY]
                clear hnext hY
                have x1 : IntKind.u8.wrap (Y % 256) = Y % 256 := by rw [IntKind.wrap_u8]; omega
                go_wp2_with (at_builtin; refine wpList_append_own _ rfl _ _ 71 rfl w5.heap.size 5 i0 (.int .u8 0) 1 1 Tryd.underlying71 hi hz0 hz1 hz2 rfl (by decide) _ _ _ rfl (HO.out.alloc _) ⟨wr.heap.size, 0, none⟩ 1 1 [.int .u8 (Y % 256)] rfl rfl ?d1x ?d2x ?d3x ?d4x ?d5x ?_)
                case d1x =>
                  intro j u hj
                  match j, hj with
                  | 0, hj => simp at hj; subst hj; simp [Addr.add]
                case d2x => intro u hu; simp at hu; subst hu; rfl
                case d3x => unfold maxLen; omega
                case d4x => omega
                case d5x => simp; omega
                intro v' w6 hown6 hgrow6 _
                have hblk : ∀ k, (u6 : Value).ownBlock = some k → w5.heap.size ≤ k := fun k hk => by
                  rcases HO.out.2 with ⟨hv, _⟩ | ⟨g, cap, cur, hv, hbg, _⟩
                  · rw [hv] at hk; simp [Value.ownBlock] at hk
                  · rw [hv] at hk; simp [Value.ownBlock] at hk; omega
                have hR9 : Row w6 w.heap.size 67 R := (hgrow6.block _ (by simp; have := HR8.out.lt; omega) (fun e => by have := hblk _ e.symm; omega)).trans (HR8.out.alloc _)
                have hbw9 : Below w.heap.size w w6 := (hbw8.alloc (by omega) _).grown hgrow6 (by simp; omega) (fun k hk => by have := hblk k hk; omega)
                have hs9 : w5.heap.size ≤ w6.heap.size := by have := hgrow6.size; simp at this; omega
                have HO9 : w6.ownsRow w5.heap.size 5 1 v' (4 * j + (q + 1)) (Lib.byteCells (D.take (4 * j + (q + 1)))) := by
                  have e : D.take (4 * j + (q + 1)) = D.take (4 * j + q) ++ [D[4 * j + q]'(by omega)] := by rw [← Nat.add_assoc, List.take_add_one, List.getElem?_eq_getElem (show 4 * j + q < D.length by omega)]; rfl
                  rw [e, ← byteCells_append, hd, ← Nat.add_assoc]
                  rw [byte_of Y] at hown6
                  exact hown6
                clear hown6 hgrow6
                go_wp2_with fail
                refine ⟨?relCx, ?measureCx⟩
                case relCx => exact ⟨q + 1, by omega, by go_num, by rw [HN.out], HO9, hR9, hbw9, hs9⟩
                case measureCx => simp [intOf]; omega
              · obtain rfl : q = 4 := by omega
                go_wp2_with fail
                refine ⟨?relBx, ?measureBx⟩
                case relBx => exact ⟨j + 1, by omega, by go_num, by rw [Nat.mul_add]; exact HO, HR8, hbw8, hs8⟩
                case measureBx => simp [intOf]; omega
          · obtain rfl : j = 8 := by omega
            have e32 : D.take (4 * 8) = D := List.take_of_length_le (by omega)
            have hO8 := HO.out
            rw [e32] at hO8
            have hst := owns_string (P := Tryd.prog) hO8 (by omega) 71 9 Tryd.underlying71 Tryd.underlying5 Tryd.underlying9
            clear HO hO8 e32
            go_wp2_with fail
            go_ret
            exact ⟨by rw [HD.out]; rfl, hbw7⟩
      · refine AllReady.cons rfl (fun K' hK => ?_) AllReady.nil
        go_simp
        refine (rpad_any _ ld _).mono ?_
        rintro e w2 ⟨rfl, hb2⟩
        have hR2 : Row w2 w.heap.size 67 (fk H S k) := (hb2.block _ hgl).trans hrow
        have hbw2 : Below w.heap.size w w2 := hbw.drew.trans (hb2.mono (by show w.heap.size ≤ wr.heap.size; omega))
        have d0 : (w2).cell? ⟨w.heap.size, 0, none⟩ = some (.int .u32 (at_ (fk H S k) 0)) := by rw [(hR2).cell 0 (by omega), at_eq]
        have d1 : (w2).cell? ⟨w.heap.size, 1, none⟩ = some (.int .u32 (at_ (fk H S k) 1)) := by rw [(hR2).cell 1 (by omega), at_eq]
        have d2 : (w2).cell? ⟨w.heap.size, 2, none⟩ = some (.int .u32 (at_ (fk H S k) 2)) := by rw [(hR2).cell 2 (by omega), at_eq]
        have d3 : (w2).cell? ⟨w.heap.size, 3, none⟩ = some (.int .u32 (at_ (fk H S k) 3)) := by rw [(hR2).cell 3 (by omega), at_eq]
        have d4 : (w2).cell? ⟨w.heap.size, 4, none⟩ = some (.int .u32 (at_ (fk H S k) 4)) := by rw [(hR2).cell 4 (by omega), at_eq]
        have d5 : (w2).cell? ⟨w.heap.size, 5, none⟩ = some (.int .u32 (at_ (fk H S k) 5)) := by rw [(hR2).cell 5 (by omega), at_eq]
        have d6 : (w2).cell? ⟨w.heap.size, 6, none⟩ = some (.int .u32 (at_ (fk H S k) 6)) := by rw [(hR2).cell 6 (by omega), at_eq]
        have d7 : (w2).cell? ⟨w.heap.size, 7, none⟩ = some (.int .u32 (at_ (fk H S k) 7)) := by rw [(hR2).cell 7 (by omega), at_eq]
        refine hK _ _ ?_
        clear hK K'
        refine wpAny_ready (rs := [0]) (by kernel_rfl) (by simp) ?_
        refine AllReady.cons rfl (fun K' hK => ?_) AllReady.nil
        go_simp
        refine hK _ _ ?_
        clear hK K'
        refine wpAny_ready (rs := [8]) (by kernel_rfl) (by simp) ?_
        refine AllReady.cons rfl (fun K' hK => ?_) AllReady.nil
        go_simp
        refine (hC w2).mono ?_
        rintro e w4 ⟨rfl, hb4⟩
        have hr4 : w4.heap[w.heap.size]? = some (.cells (wv (fk H S k)) 67 (0, 0)) := (hb4.block _ hR2.lt).trans hR2
        have hbw4 : Below w.heap.size w w4 := hbw2.trans (hb4.mono hbw2.size)
        refine hK _ _ ?_
        clear hK K'
        refine wpAny_take (i := 9) (v := .tuple #[.agg (wv R), .int .i64 0]) rfl (by kernel_rfl) (by kernel_rfl) (by kernel_rfl) (fun _ _ _ h => h) (Or.inl ⟨by rfl, fun w => by go_simp⟩) ?_
        refine wpAny_take (i := 10) (v := .agg (wv R)) rfl (by kernel_rfl) (by kernel_rfl) (by kernel_rfl) (fun _ _ _ h => h) (Or.inl ⟨by rfl, fun w => by go_simp⟩) ?_
        refine wpAny_take (i := 11) (v := .int .i64 0) rfl (by kernel_rfl) (by kernel_rfl) (by kernel_rfl) (fun _ _ _ h => h) (Or.inl ⟨by rfl, fun w => by go_simp⟩) ?_
        refine any_seqI [12] [_] _ _ _ rfl (by kernel_rfl) ?_
        refine wpList_store_row rfl 67 _ _ rfl w.heap.size (wv R) rfl rfl 67 (wv (fk H S k)) hr4 hszR (by rw [wv_size, wv_size, lk, lr]) (wv_one _) ?_
        have rh5 : (w4.setRow w.heap.size (wv R)).heap[w.heap.size]? = some (.cells (wv R) 67 (0, 0)) := setRow_heap _ _ _ _ _ _ hr4
        have hb5 : Below w.heap.size w (w4.setRow w.heap.size (wv R)) := below_setRow hbw4 (by omega) _
        obtain ⟨w5, hw5⟩ : ∃ w5, w4.setRow w.heap.size (wv R) = w5 := ⟨_, rfl⟩
        change wpList _ _ _ _ _ (w4.setRow w.heap.size (wv R))
        rw [hw5] at rh5 hb5 ⊢
        clear hw5
        go_wp2_with fail
        have hlt5 : w.heap.size < w5.heap.size := Row.lt rh5
        go_loopw [6, 7] (fun v i wq => ∃ j : Nat, j ≤ 8 ∧ i = .int .i64 j ∧ Hid (wq.ownsRow w5.heap.size 5 1 v (4 * j) (Lib.byteCells (D.take (4 * j)))) ∧ Hid (Row wq w.heap.size 67 R) ∧ Below w.heap.size w wq ∧ w5.heap.size ≤ wq.heap.size) (fun _ i _ => 8 - (intOf i).toNat)
        case atStart => exact ⟨0, by omega, rfl, World.ownsRow_nil _ _ _ _, rh5, hb5, Nat.le_refl _⟩
        case round =>
          obtain ⟨j, hj, rfl, HO, HR7, hbw7, hs7⟩ := hrel
          by_cases hl3 : j < 8
          · have i4 : (j : Int) < 8 := by omega
            have rj := rng j hl3
            have c0 : wr.cell? ⟨w.heap.size, j, none⟩ = some (.int .u32 (at_ R j)) := by rw [HR7.out.cell j (by omega), at_eq]
            obtain ⟨X, hX⟩ : ∃ X, at_ R j = X := ⟨_, rfl⟩
            have hDX : ∀ q, q < 4 → ∀ h : 4 * j + q < D.length, D[4 * j + q]'h = UInt8.ofNat (X / 256 ^ q % 256).toNat := by
              intro q hq h
              rw [← hX]
              exact hDg j q hq h
            rw [hX] at c0 rj
            clear hX
            go_wp2_with fail
            go_loopw [6, 8, 9] (fun v y i wq => ∃ q : Nat, q ≤ 4 ∧ i = .int .i64 q ∧ y = .int .u32 (X / 256 ^ q) ∧ Hid (wq.ownsRow w5.heap.size 5 1 v (4 * j + q) (Lib.byteCells (D.take (4 * j + q)))) ∧ Hid (Row wq w.heap.size 67 R) ∧ Below w.heap.size w wq ∧ w5.heap.size ≤ wq.heap.size) (fun _ _ i _ => 4 - (intOf i).toNat)
            case atStart => exact ⟨0, by omega, rfl, by simp, HO, HR7, hbw7, hs7⟩
            case round =>
              obtain ⟨q, hq, rfl, rfl, HO, HR8, hbw8, hs8⟩ := hrel
              by_cases hl4 : q < 4
              · have i5 : (q : Int) < 4 := by omega
                have hd := hDX q hl4 (by omega)
                have hnext : X / 256 ^ (q + 1) = X / 256 ^ q / 256 := by rw [Int.pow_succ, Int.ediv_ediv_of_nonneg (Int.pow_nonneg (by omega))]
                have hnn : 0 ≤ X / 256 ^ q := Int.ediv_nonneg rj.1 (Int.pow_nonneg (by omega))
                have hle : X / 256 ^ q < 4294967296 := by
                  have h1 : X / 256 ^ q ≤ X := Int.ediv_le_self _ rj.1
                  omega
                obtain ⟨Y, hY⟩ : ∃ Y, X / 256 ^ q = Y := ⟨_, rfl⟩
                have HN : Hid (X / 256 ^ (q + 1) = Y / 256) := by rw [← hY]; exact hnext
                rw [hY] at hd hnn hle
                simp only [hY]
                clear hnext hY
                have x1 : IntKind.u8.wrap (Y % 256) = Y % 256 := by rw [IntKind.wrap_u8]; omega
                go_wp2_with (at_builtin; refine wpList_append_own _ rfl _ _ 71 rfl w5.heap.size 5 i0 (.int .u8 0) 1 1 Tryd.underlying71 hi hz0 hz1 hz2 rfl (by decide) _ _ _ rfl (HO.out.alloc _) ⟨wr.heap.size, 0, none⟩ 1 1 [.int .u8 (Y % 256)] rfl rfl ?d1y ?d2y ?d3y ?d4y ?d5y ?_)
                case d1y =>
                  intro j u hj
                  match j, hj with
                  | 0, hj => simp at hj; subst hj; simp [Addr.add]
                case d2y => intro u hu; simp at hu; subst hu; rfl
                case d3y => unfold maxLen; omega
                case d4y => omega
                case d5y => simp; omega
                intro v' w6 hown6 hgrow6 _
                have hblk : ∀ k, (u6 : Value).ownBlock = some k → w5.heap.size ≤ k := fun k hk => by
                  rcases HO.out.2 with ⟨hv, _⟩ | ⟨g, cap, cur, hv, hbg, _⟩
                  · rw [hv] at hk; simp [Value.ownBlock] at hk
                  · rw [hv] at hk; simp [Value.ownBlock] at hk; omega
                have hR9 : Row w6 w.heap.size 67 R := (hgrow6.block _ (by simp; have := HR8.out.lt; omega) (fun e => by have := hblk _ e.symm; omega)).trans (HR8.out.alloc _)
                have hbw9 : Below w.heap.size w w6 := (hbw8.alloc (by omega) _).grown hgrow6 (by simp; omega) (fun k hk => by have := hblk k hk; omega)
                have hs9 : w5.heap.size ≤ w6.heap.size := by have := hgrow6.size; simp at this; omega
                have HO9 : w6.ownsRow w5.heap.size 5 1 v' (4 * j + (q + 1)) (Lib.byteCells (D.take (4 * j + (q + 1)))) := by
                  have e : D.take (4 * j + (q + 1)) = D.take (4 * j + q) ++ [D[4 * j + q]'(by omega)] := by rw [← Nat.add_assoc, List.take_add_one, List.getElem?_eq_getElem (show 4 * j + q < D.length by omega)]; rfl
                  rw [e, ← byteCells_append, hd, ← Nat.add_assoc]
                  rw [byte_of Y] at hown6
                  exact hown6
                clear hown6 hgrow6
                go_wp2_with fail
                refine ⟨?relCy, ?measureCy⟩
                case relCy => exact ⟨q + 1, by omega, by go_num, by rw [HN.out], HO9, hR9, hbw9, hs9⟩
                case measureCy => simp [intOf]; omega
              · obtain rfl : q = 4 := by omega
                go_wp2_with fail
                refine ⟨?relBy, ?measureBy⟩
                case relBy => exact ⟨j + 1, by omega, by go_num, by rw [Nat.mul_add]; exact HO, HR8, hbw8, hs8⟩
                case measureBy => simp [intOf]; omega
          · obtain rfl : j = 8 := by omega
            have e32 : D.take (4 * 8) = D := List.take_of_length_le (by omega)
            have hO8 := HO.out
            rw [e32] at hO8
            have hst := owns_string (P := Tryd.prog) hO8 (by omega) 71 9 Tryd.underlying71 Tryd.underlying5 Tryd.underlying9
            clear HO hO8 e32
            go_wp2_with fail
            go_ret
            exact ⟨by rw [HD.out]; rfl, hbw7⟩
end Go.Proofs.YtihggfkenhkglaaDoor
namespace Go.Proofs.YtihggfkenhkglaaDoor
set_option maxRecDepth 100000
open Go.RowKit
set_option linter.unusedVariables false
attribute [local go_sem] wv_get wv_getE wv_set wv_size
def fsp (k : Nat) : List Int := (List.range 8).map fun i => if i < k then at_ firstL i else 0
theorem fsp_len (k : Nat) : (fsp k).length = 8 := by simp [fsp]
theorem fsp_set (k : Nat) : (fsp k).set k (at_ firstL k) = fsp (k + 1) := by
  apply List.ext_getElem
  · simp [fsp]
  · intro i h1 h2
    simp only [List.getElem_set, fsp, List.getElem_map, List.getElem_range]
    by_cases h : k = i
    · subst h; simp
    · rw [if_neg h]
      by_cases h3 : i < k
      · rw [if_pos h3, if_pos (by omega)]
      · rw [if_neg h3, if_neg (by omega)]
theorem fsp_8 : fsp 8 = firstL := by decide
set_option maxHeartbeats 1000000 in
theorem rstart_bad (k : Int) (hk : k < 0 ∨ 32 < k) (w : World) :
    Calls Tryd.prog 37 #[.int .i64 k] w fun e w' => e = .returned (.tuple #[.agg (wv Z8), .int .i64 1]) ∧ Below w.heap.size w w' := by
  rcases hk with hk | hk
  · go_enter Tryd.func37, Tryd.ntmps37
    go_wp2
    refine bodyPost_ret (v := .tuple #[.agg (wv Z8), .int .i64 1]) (results_row_tmp Tryd.results37 _ _ w.heap.size 67 (wv Z8) (0, 0) _ rfl ?_ Tryd.underlying67 rfl ?_) rfl ⟨rfl, ?_⟩
    · exact heap_alloc2_old w _ _
    · rw [psize8, wv_size]; rfl
    · exact ((Below.refl _ _).alloc (Nat.le_refl _) _).alloc (by simp) _
  · have h0 : ¬ k < 0 := by omega
    go_enter Tryd.func37, Tryd.ntmps37
    go_wp2
    refine bodyPost_ret (v := .tuple #[.agg (wv Z8), .int .i64 1]) (results_row_tmp Tryd.results37 _ _ w.heap.size 67 (wv Z8) (0, 0) _ rfl ?_ Tryd.underlying67 rfl ?_) rfl ⟨rfl, ?_⟩
    · exact heap_alloc2_old w _ _
    · rw [psize8, wv_size]; rfl
    · exact ((Below.refl _ _).alloc (Nat.le_refl _) _).alloc (by simp) _
set_option maxHeartbeats 1000000 in
theorem rstart_good (k : Int) (h0 : 0 ≤ k) (h1 : k ≤ 32) (w : World) :
    Calls Tryd.prog 37 #[.int .i64 k] w fun e w' => e = .returned (.tuple #[.agg (wv (startL k)), .int .i64 0]) ∧ Below w.heap.size w w' := by
  go_enter Tryd.func37, Tryd.ntmps37
  go_wp2_with fail
  refine (first_any _).mono ?_
  rintro e w1 ⟨⟨g, rfl, hg, hrf⟩, hb1⟩
  have hs1 : w.heap.size + 2 ≤ g := by simpa using hg
  have hZ1 : Row w1 w.heap.size 67 Z8 := (hb1.block _ (by simp; omega)).trans (heap_alloc2_old w _ _)
  have hF1 : Row w1 (w.heap.size + 1) 67 (fsp 0) := (hb1.block _ (by simp)).trans (heap_alloc2_new w _ _)
  have hbw1 : Below w.heap.size w w1 := (((Below.refl _ _).alloc (Nat.le_refl _) _).alloc (by simp) _).trans (hb1.mono (by simp; omega))
  clear hb1
  go_wp2_with fail
  go_loopw [6] (fun i wr => ∃ j : Nat, j ≤ 8 ∧ i = .int .i64 j ∧ Hid (Row wr w.heap.size 67 Z8) ∧ Hid (Row wr (w.heap.size + 1) 67 (fsp j)) ∧ Hid (Row wr g 66 firstL) ∧ Below w.heap.size w wr) (fun i _ => 8 - (intOf i).toNat)
  case atStart => exact ⟨0, by omega, rfl, hZ1, hF1, hrf, hbw1⟩
  case round =>
    obtain ⟨j, hj, rfl, HZ, HF, HL, hbw⟩ := hrel
    by_cases hlt : j < 8
    · have i0 : (j : Int) < 8 := by omega
      have lf := fsp_len j
      have c0 : wr.cell? ⟨g, j, none⟩ = some (.int .u32 (at_ firstL j)) := by rw [HL.out.cell j (by simpa [firstL] using hlt), at_eq]
      have c1 := HF.out.cell j (by omega)
      have f1 := HF.out.frozen j
      go_wp2_with fail
      go_roundw
      case rel =>
        refine ⟨j + 1, by omega, by go_num, HZ.out.other _ _ _ (by omega), ?_, HL.out.other _ _ _ (by omega), hbw.setCell (by simp) _⟩
        rw [← fsp_set j]
        exact HF.out.set j _
      case measure => simp [intOf]; omega
    · obtain rfl : j = 8 := by omega
      have hL : Row wr (w.heap.size + 1) 67 firstL := by rw [← fsp_8]; exact HF.out
      have c0 : wr.cell? ⟨w.heap.size + 1, 0, none⟩ = some (.int .u32 (at_ firstL 0)) := by rw [hL.cell 0 (by decide), at_eq]
      have f0 := hL.frozen 0
      have x0 : IntKind.i64.wrap (256 * k) = 256 * k := by rw [IntKind.wrap_i64]; omega
      have x1 : IntKind.u32.wrap (256 * k) = 256 * k := by rw [IntKind.wrap_u32']; omega
      obtain ⟨R, hR⟩ : ∃ R, startL k = R := ⟨_, rfl⟩
      have lR : R.length = 8 := by rw [← hR]; rfl
      go_wp2_with (first | (refine wpList_load_row rfl 67 _ rfl (w.heap.size + 1) rfl 67 (wv R) (0, 0) _ ?hg3 Tryd.underlying67 rfl ?hi3 ?_) | (refine wpList_store_row rfl 67 _ _ rfl w.heap.size (wv R) rfl rfl 67 (wv Z8) ?hg4 ?hi4 ?ho4 ?h14 ?_))
      case hg3 => rw [← hR]; unfold startL; rw [← xor_assoc32]; exact hL.set 0 _
      case hi3 => rw [psize8, wv_size, lR]
      case hg4 => exact HZ.out.other _ _ _ (by omega)
      case hi4 => rw [psize8, wv_size, lR]
      case ho4 => rw [wv_size, wv_size, lR]; rfl
      case h14 => exact wv_one _
      refine bodyPost_ret (v := .tuple #[.agg (wv R), .int .i64 0]) (results_row_tmp Tryd.results37 _ _ w.heap.size 67 (wv R) (0, 0) _ rfl ?_ Tryd.underlying67 rfl ?_) rfl ⟨by first | rfl | rw [hR], ?_⟩
      · exact setRow_heap _ _ _ _ _ _ (HZ.out.other _ _ _ (by omega))
      · rw [psize8, wv_size, lR]
      · exact below_setRow (hbw.setCell (by simp) _) (by omega) _
end Go.Proofs.YtihggfkenhkglaaDoor
