/-
  What is wanted of package history, as one word.
-/
import Derived.Test.YtpmcmohdhicfcaaGE
import Derived.Test.YtpmcmohdhicfcaaGA
namespace Go.Proofs.Ytpmcmohdhicfcaa
set_option maxRecDepth 100000
open Go.RowKit
/-- A number that an int may be. -/
def goodI (t : Int) : Prop := -9223372036854775808 ≤ t ∧ t ≤ 9223372036854775807
/-- Texts, made. -/
def TxsRow (w : World) (K : List (List UInt8)) (e : Ending) (w' : World) : Prop := ∃ v, e = .returned v ∧ Below w.heap.size w w' ∧ w'.ownsRow w.heap.size 9 1 v K.length (strV K)
structure P8C : Prop where
  formed : ∀ (h : List Ev) (v : Value) (w : World), IsEvs w v h → (∀ x ∈ h, goodE x) → Calls Try.prog 13 #[v] w fun e w' => e = .returned (.tuple #[.int .i64 ((formedL h).1 : Int), .int .i64 ((formedL h).2 : Int)]) ∧ Below w.heap.size w w'
  lives : ∀ (h : List Ev) (v : Value) (w : World), IsEvs w v h → (∀ x ∈ h, goodE x) → h.length ≤ 300 → Calls Try.prog 16 #[v] w fun e w' => LfRow 37 w (livesL h) e w'
  find : ∀ (h : List Ev) (v : Value) (w : World) (t : Int), IsEvs w v h → (∀ x ∈ h, goodE x) → goodI t → Calls Try.prog 21 #[v, .int .i64 t] w fun e w' => e = .returned (.tuple #[lifA (findP h t).1, .bool (findP h t).2]) ∧ Below w.heap.size w w'
  writer : ∀ (h : List Ev) (v : Value) (w : World) (key val : List UInt8), IsEvs w v h → (∀ x ∈ h, goodE x) → h.length ≤ 300 → key.length ≤ 140737488351232 → val.length ≤ 140737488351232 → Calls Try.prog 26 #[v, .string ⟨key.toArray⟩, .string ⟨val.toArray⟩] w fun e w' => e = .returned (.int .i64 (oI (writerL h key val))) ∧ Below w.heap.size w w'
  last : ∀ (h : List Ev) (v : Value) (w : World) (t : Int) (key : List UInt8) (before : Int), IsEvs w v h → (∀ x ∈ h, goodE x) → h.length ≤ 300 → goodI t → key.length ≤ 140737488351232 → goodI before → Calls Try.prog 28 #[v, .int .i64 t, .string ⟨key.toArray⟩, .int .i64 before] w fun e w' => e = .returned (.int .i64 (oI (lastL h t key before))) ∧ Below w.heap.size w w'
  versions : ∀ (h : List Ev) (v : Value) (w : World) (key : List UInt8), IsEvs w v h → (∀ x ∈ h, goodE x) → h.length ≤ 300 → key.length ≤ 140737488351232 → Calls Try.prog 24 #[v, .string ⟨key.toArray⟩] w fun e w' => InRow w ((versL h key).map Int.ofNat) e w'
  keys : ∀ (h : List Ev) (v : Value) (w : World), IsEvs w v h → (∀ x ∈ h, goodE x) → h.length ≤ 300 → Calls Try.prog 19 #[v] w fun e w' => TxsRow w (keysL h) e w'
end Go.Proofs.Ytpmcmohdhicfcaa
