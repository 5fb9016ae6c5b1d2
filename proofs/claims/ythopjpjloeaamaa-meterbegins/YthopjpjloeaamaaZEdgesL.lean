/-
  Edges of a history, in lists: of no program.
-/
import Derived.Test.YthopjpjloeaamaaZTaintL
namespace Go.Proofs.Ythopjpjloeaamaa
set_option maxRecDepth 100000
set_option linter.unusedVariables false
/-- Less, by bytes. -/
def lessB : List UInt8 → List UInt8 → Bool
  | [], [] => false
  | [], _ :: _ => true
  | _ :: _, [] => false
  | a :: l, b :: m => if a < b then true else if a = b then lessB l m else false
def insK (k : List UInt8) : List (List UInt8) → List (List UInt8)
  | [] => [k]
  | x :: l => if lessB x k = true then x :: insK k l else if x = k then x :: l else k :: x :: l
def keysF : List (List UInt8) → List Ev → List (List UInt8)
  | acc, [] => acc
  | acc, x :: l => keysF (if keyedE x.1 then insK x.2.2.1 acc else acc) l
def keysL (h : List Ev) : List (List UInt8) := keysF [] h
theorem insK_mem (k : List UInt8) : ∀ (l : List (List UInt8)) (y : List UInt8), y ∈ insK k l ↔ y = k ∨ y ∈ l
  | [], y => by rw [insK]; simp
  | x :: l, y => by
    rw [insK]
    by_cases h1 : lessB x k = true
    · rw [if_pos h1, List.mem_cons, insK_mem k l y, List.mem_cons]
      constructor
      · rintro (h | h | h)
        · exact .inr (.inl h)
        · exact .inl h
        · exact .inr (.inr h)
      · rintro (h | h | h)
        · exact .inr (.inl h)
        · exact .inl h
        · exact .inr (.inr h)
    · rw [if_neg h1]
      by_cases h2 : x = k
      · rw [if_pos h2, List.mem_cons]
        constructor
        · intro h; exact .inr h
        · rintro (h | h)
          · exact .inl (by rw [h, h2])
          · exact h
      · rw [if_neg h2, List.mem_cons]
theorem keysF_mem (y : List UInt8) : ∀ (l : List Ev) (acc : List (List UInt8)), y ∈ keysF acc l ↔ y ∈ acc ∨ ∃ x ∈ l, keyedE x.1 ∧ x.2.2.1 = y
  | [], acc => by rw [keysF]; simp
  | x :: l, acc => by
    rw [keysF, keysF_mem y l]
    by_cases hk : keyedE x.1
    · rw [if_pos hk, insK_mem]
      constructor
      · rintro ((h | h) | ⟨z, hz, h1, h2⟩)
        · exact .inr ⟨x, List.mem_cons_self .., hk, h.symm⟩
        · exact .inl h
        · exact .inr ⟨z, List.mem_cons_of_mem _ hz, h1, h2⟩
      · rintro (h | ⟨z, hz, h1, h2⟩)
        · exact .inl (.inr h)
        · rcases List.mem_cons.1 hz with rfl | hz
          · exact .inl (.inl h2.symm)
          · exact .inr ⟨z, hz, h1, h2⟩
    · rw [if_neg hk]
      constructor
      · rintro (h | ⟨z, hz, h1, h2⟩)
        · exact .inl h
        · exact .inr ⟨z, List.mem_cons_of_mem _ hz, h1, h2⟩
      · rintro (h | ⟨z, hz, h1, h2⟩)
        · exact .inl h
        · rcases List.mem_cons.1 hz with rfl | hz
          · exact absurd h1 hk
          · exact .inr ⟨z, hz, h1, h2⟩
theorem keys_mem (h : List Ev) (y : List UInt8) : y ∈ keysL h ↔ ∃ i, i < h.length ∧ keyedE (ev h i).1 ∧ (ev h i).2.2.1 = y := by
  unfold keysL
  rw [keysF_mem]
  constructor
  · rintro (h' | ⟨x, hx, h1, h2⟩)
    · cases h'
    · obtain ⟨i, hi, rfl⟩ := List.getElem_of_mem hx
      exact ⟨i, hi, by rw [ev_get _ _ hi]; exact h1, by rw [ev_get _ _ hi]; exact h2⟩
  · rintro ⟨i, hi, h1, h2⟩
    rw [ev_get _ _ hi] at h1 h2
    exact .inr ⟨h[i], List.getElem_mem hi, h1, h2⟩
/-- An edge: kind, from, to, the two places. -/
abbrev Ed := Int × Int × Int × Int × Int
def tx (h : List Ev) (i : Nat) : Int := (ev h i).2.1
def vAt (v : List Nat) (n : Nat) : Nat := v.getD n 0
def wEdge (h : List Ev) (v : List Nat) (n : Nat) : Option Ed := if tx h (vAt v n) = tx h (vAt v (n + 1)) then none else some (1, tx h (vAt v n), tx h (vAt v (n + 1)), (vAt v n : Int), (vAt v (n + 1) : Int))
def wEdges (h : List Ev) (v : List Nat) : List Ed := (List.range (v.length - 1)).filterMap (wEdge h v)
/-- The number of the first version whose value is read. -/
def verAt (h : List Ev) (v : List Nat) (i : Nat) : Option Nat := fi (fun n => decide ((ev h (vAt v n)).2.2.2 = (ev h i).2.2.2)) v.length
def rEdge (h : List Ev) (v : List Nat) (i n : Nat) : List Ed := if tx h (vAt v n) = tx h i then [] else [(2, tx h (vAt v n), tx h i, (vAt v n : Int), (i : Int))]
def oEdge (h : List Ev) (v : List Nat) (i n : Nat) : List Ed := if n < v.length ∧ tx h (vAt v n) ≠ tx h i then [(3, tx h i, tx h (vAt v n), (i : Int), (vAt v n : Int))] else []
def rdEdges (h : List Ev) (v : List Nat) (i : Nat) : List Ed :=
  match verAt h v i with
  | none => if (ev h i).2.2.2 = [] then oEdge h v i 0 else []
  | some n => rEdge h v i n ++ oEdge h v i (n + 1)
def readOf (h : List Ev) (key : List UInt8) (i : Nat) : Bool := decide ((ev h i).2.2.1 = key) && outerB h i
def rEdges (h : List Ev) (key : List UInt8) (v : List Nat) : List Ed := (List.range h.length).flatMap fun i => if readOf h key i = true then rdEdges h v i else []
def keyEdges (h : List Ev) (key : List UInt8) : List Ed := wEdges h (versL h key) ++ rEdges h key (versL h key)
def edgesL (h : List Ev) : List Ed := (keysL h).flatMap (keyEdges h)
/-- Whether an edge holds. -/
def holdsL (h : List Ev) (e : Ed) : Prop :=
  ∃ a b i j : Nat, commL h e.2.1 = some a ∧ commL h e.2.2.1 = some b ∧ e.2.1 ≠ e.2.2.1 ∧ e.2.2.2.1 = (i : Int) ∧ e.2.2.2.2 = (j : Int) ∧ i < h.length ∧ j < h.length ∧ (ev h i).2.2.1 = (ev h j).2.2.1 ∧ tx h i = e.2.1 ∧ tx h j = e.2.2.1 ∧
  ((e.1 = 1 ∧ (ev h i).1 = 3 ∧ (ev h j).1 = 3 ∧ a < b) ∨ (e.1 = 2 ∧ (ev h i).1 = 3 ∧ (ev h j).1 = 2 ∧ (ev h i).2.2.2 = (ev h j).2.2.2) ∨
   (e.1 = 3 ∧ (ev h i).1 = 2 ∧ (ev h j).1 = 3 ∧ ((ev h i).2.2.2 = [] ∨ ∃ w c, writerL h (ev h i).2.2.1 (ev h i).2.2.2 = some w ∧ tx h w ≠ e.2.2.1 ∧ commL h (tx h w) = some c ∧ c < b)))
/-- A way of edges. -/
def wayI (l : List Ed) (a : Int) : Nat → Int → Prop
  | 0, b => b = a
  | n + 1, b => ∃ e, e ∈ l ∧ wayI l a n e.2.1 ∧ b = e.2.2.1
def Way (l : List Ed) (a b : Int) : Prop := ∃ n, wayI l a n b
theorem Way.here {l : List Ed} {a : Int} : Way l a a := ⟨0, rfl⟩
theorem Way.go {l : List Ed} {a : Int} (e : Ed) (he : e ∈ l) (h : Way l a e.2.1) : Way l a e.2.2.1 := by
  obtain ⟨n, hn⟩ := h
  exact ⟨n + 1, e, he, hn, rfl⟩
theorem Way.elim {l : List Ed} {a : Int} {motive : (b : Int) → Way l a b → Prop} (here : motive a Way.here) (go : ∀ (e : Ed) (he : e ∈ l) (h : Way l a e.2.1), motive e.2.1 h → motive e.2.2.1 (Way.go e he h)) {b : Int} (h : Way l a b) : motive b h := by
  obtain ⟨n, hn⟩ := h
  induction n generalizing b with
  | zero => have e : b = a := hn
            subst e; exact here
  | succ n ih =>
    obtain ⟨e, he, h1, rfl⟩ := hn
    exact go e he ⟨n, h1⟩ (ih h1)
theorem Way.trans {l : List Ed} {a b c : Int} (h : Way l a b) (k : Way l b c) : Way l a c := by
  induction k using Way.elim with
  | here => exact h
  | go e he _ ih => exact .go e he ih
end Go.Proofs.Ythopjpjloeaamaa
