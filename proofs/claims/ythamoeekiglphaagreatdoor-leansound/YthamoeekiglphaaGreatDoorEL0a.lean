/-
  Small facts that the walks use: bytes of strings, sums of bytes, ends of calls: of no program. Words of 32 bits in lists and in rows of memory; the mixing of BL
-/
import Derived.WalkKit
import Derived.WalkSpells
import Derived.WalkLawsBesides
import Derived.Laws.BytesArg
import Derived.Laws.BitsAllLaws
import Derived.BigRegion
import Derived.BigQuiet
import Derived.StillTailTactics
import Derived.Laws.Rows
import Derived.Laws.Tables
import Derived.Laws.CopyOwn
import Derived.Test.YthamoeekiglphaaGreatDoorProg
import Derived.Lib.Builder
import Derived.Deep.Slices
import Derived.Deep.Fields
import Derived.ChangeArms
import Derived.ProofKit
import Derived.StillTail
import Derived.Orders
import Derived.OwnWalk
import Derived.Lib.BufferWrite
namespace Go.Proofs.YthamoeekiglphaaGreatDoor
set_option maxRecDepth 100000
open Go.RowKit
theorem ba_size (l:List UInt8):(⟨l.toArray⟩:ByteArray).size=l.length:=by simp [ByteArray.size]
theorem ba_get (l:List UInt8) (i:Nat) (h:i < (⟨l.toArray⟩:ByteArray).size):(⟨l.toArray⟩:ByteArray)[i]'h=l[i]'(by rw [← ba_size];exact h):=rfl
theorem ba_extract (l:List UInt8) (a b:Nat):(⟨l.toArray⟩:ByteArray).extract a b=⟨((l.drop a).take (b - a)).toArray⟩:=by
 apply ByteArray.ext;simp [List.extract_toArray,List.extract]
theorem ba_append (l m:List UInt8):(⟨l.toArray⟩:ByteArray)++(⟨m.toArray⟩:ByteArray)=⟨(l++m).toArray⟩:=by
 apply ByteArray.ext;simp
theorem wrap_byte (b:UInt8):wrap64 (b.toNat:Int)=b.toNat:=by
 have:=b.toNat_lt;unfold wrap64;omega
theorem wrap_u64_byte (b:UInt8):IntKind.u64.wrap (b.toNat:Int)=b.toNat:=by
 have:=b.toNat_lt;rw [IntKind.wrap_u64];omega
theorem take_drop_end (l:List UInt8) (n:Nat):(l.drop n).take (l.length - n)=l.drop n:=List.take_of_length_le (by simp)
theorem bel_trans {w a b:World} (h:Below w.heap.size w a) (k:Below a.heap.size a b):Below w.heap.size w b:=h.trans (k.mono h.size)
theorem ret_str {a b:ByteArray} (h:a=b):Ending.returned (.string a)=.returned (.string b):=by rw [h]
theorem region_tail {P:Program} {id:Nat} {Q:Exit→Act→World→Prop} {a:Act} {w:World} {l:List Oper} (n:Nat) (hm:P.follows .mixedOrders=true) (hB:Region.lexTailB .any l.toArray n=true)
 (h:wpStill P l.toArray w.drew (fun a'=>wpList P l.toArray Q (l.drop n) a' w.drew) (l.take n) a):(Code.region id l.toArray true).wp P Q a w :=
 wp_region_still_tail n hm hB h
def rot (p q x:Int):Int:=bits .or .u32 (x / p) (x*q % 4294967296)
def wv (V:List Int):Array Value:=(V.map (Value.int .u32)).toArray
theorem wv_get (V:List Int) (i:Nat) (h:i < V.length):(wv V)[i]?=some (.int .u32 V[i]):=by simp [wv,h]
theorem wv_getE (V:List Int) (i:Nat) (h:i < (wv V).size):(wv V)[i]'h=.int .u32 (V[i]'(by simpa [wv] using h)):=by simp [wv]
theorem wv_set (V:List Int) (i:Nat) (x:Int):(wv V).setIfInBounds i (.int .u32 x)=wv (V.set i x):=by simp [wv]
theorem wv_size (V:List Int):(wv V).size=V.length:=by simp [wv]
theorem wv_one (V:List Int):(wv V).all (·.oneCell')=true:=by simp [wv,Value.oneCell']
def at_ (V:List Int) (i:Nat):Int:=V.getD i 0
theorem at_eq (V:List Int) (i:Nat) (h:i < V.length):V[i]'h=at_ V i:=by simp [at_,h]
def mx1 (V:List Int) (a b:Nat) (x:Int):List Int:=V.set a (((at_ V a+at_ V b) % 4294967296+x) % 4294967296)
def mx2 (p q:Int) (V:List Int) (d a:Nat):List Int:=V.set d (rot p q (bits .xor .u32 (at_ V d) (at_ V a)))
def mx3 (V:List Int) (c d:Nat):List Int:=V.set c ((at_ V c+at_ V d) % 4294967296)
def mixL (V:List Int) (a b c d:Nat) (x y:Int):List Int :=
 mx2 128 33554432 (mx3 (mx2 256 16777216 (mx1 (mx2 4096 1048576 (mx3 (mx2 65536 65536 (mx1 V a b x) d a) c d) b c) a b y) d a) c d) b c
theorem mixL_len (V:List Int) (a b c d:Nat) (x y:Int) (h:V.length=16):(mixL V a b c d x y).length=16:=by simp [mixL,mx1,mx2,mx3,h]
def Row (w:World) (g:Nat) (t:TypeId) (V:List Int):Prop:=w.heap[g]?=some (.cells (wv V) t (0,0))
theorem Row.lt {w:World} {g:Nat} {t:TypeId} {V:List Int} (h:Row w g t V):g < w.heap.size:=by
 rcases Nat.lt_or_ge g w.heap.size with h' | h'
 ·exact h'
 ·simp [Row,Array.getElem?_eq_none h'] at h
theorem Row.cell {w:World} {g:Nat} {t:TypeId} {V:List Int} (h:Row w g t V) (i:Nat) (hi:i < V.length):w.cell? ⟨g,i,none⟩=some (.int .u32 V[i]):=by
 rw [cell_of_row w g i _ _ _ h,wv_get V i hi]
theorem Row.frozen {w:World} {g:Nat} {t:TypeId} {V:List Int} (h:Row w g t V) (i:Nat):w.frozen? ⟨g,i,none⟩=false:=frozen_of_row w g i _ _ h
theorem Row.set {w:World} {g:Nat} {t:TypeId} {V:List Int} (h:Row w g t V) (i:Nat) (x:Int):Row (w.setCell ⟨g,i,none⟩ (.int .u32 x)) g t (V.set i x):=by
 have:=heap_setCell_same w g i _ _ (.int .u32 x) h;unfold Row;rw [this,wv_set]
theorem Row.other {w:World} {g:Nat} {t:TypeId} {V:List Int} (h:Row w g t V) (g' i:Nat) (x:Value) (hne:g≠g'):Row (w.setCell ⟨g',i,none⟩ x) g t V:=by
 unfold Row;rw [heap_setCell_other w ⟨g',i,none⟩ g x hne];exact h
theorem Row.drew {w:World} {g:Nat} {t:TypeId} {V:List Int} (h:Row w g t V):Row w.drew g t V:=h
theorem Row.below {w w':World} {g:Nat} {t:TypeId} {V:List Int} (h:Row w g t V) (hb:Below w.heap.size w w'):Row w' g t V:=(hb.block g h.lt).trans h
theorem Row.alloc {w:World} {g:Nat} {t:TypeId} {V:List Int} (h:Row w g t V) (o:Obj):Row (w.alloc o) g t V:=(heap_alloc_old w o h.lt).trans h
theorem Row.new (w:World) (V:List Int) (t:TypeId):Row (w.alloc (.cells (wv V) t)) w.heap.size t V:=heap_alloc_new w _
theorem Row.setRow {w:World} {g:Nat} {t:TypeId} {V:List Int} (h:Row w g t V) (V':List Int):Row (w.setRow g (wv V')) g t V':=setRow_heap _ _ _ _ _ _ h
theorem Row.setRow_other {w:World} {g:Nat} {t:TypeId} {V:List Int} (h:Row w g t V) (g':Nat) (cs:Array Value) (hne:g≠g'):Row (w.setRow g' cs) g t V:=(_root_.Go.setRow_other w g' g cs hne).trans h
theorem wrap_u32_byte (b:UInt8):IntKind.u32.wrap (b.toNat:Int)=b.toNat:=by
 have:=b.toNat_lt;rw [IntKind.wrap_u32'];omega
theorem ret_int {k:IntKind} {a b:Int} (h:a=b):Ending.returned (.int k a)=.returned (.int k b):=by rw [h]
def firstL:List Int:=[1779033703,3144134277,1013904242,2773480762,1359893119,2600822924,528734635,1541459225]
def sig:List (List Nat):=[[0,1,2,3,4,5,6,7,8,9,10,11,12,13,14,15],[14,10,4,8,9,15,13,6,1,12,0,2,11,7,5,3],[11,8,12,0,5,2,15,13,10,14,3,6,7,1,9,4],[7,9,3,1,13,12,11,14,2,6,5,10,4,0,15,8],[9,0,5,7,2,4,10,15,14,1,11,12,6,8,3,13],[2,12,6,10,0,11,8,3,4,13,7,5,15,14,1,9],[12,5,1,15,14,13,4,10,0,7,6,3,9,2,8,11],[13,11,7,14,12,1,3,9,5,0,15,4,8,6,2,10],[6,15,14,9,11,3,0,8,12,2,13,7,1,4,10,5],[10,2,8,4,7,6,1,5,15,11,9,14,3,12,13,0]]
def sg (r i:Nat):Nat:=(sig.getD r []).getD i 0
def fig (n:Nat):UInt8:=if n < 10 then UInt8.ofNat (48+n) else UInt8.ofNat (87+n)
def ordL (r:Nat):List UInt8:=(sig.getD r []).map fig
set_option linter.unusedVariables false
theorem or_comm32 (a b:Int):bits .or .u32 a b=bits .or .u32 b a:=by
 show IntKind.u32.wrap ((BitVec.ofInt 32 a ||| BitVec.ofInt 32 b).toNat:Int)=IntKind.u32.wrap ((BitVec.ofInt 32 b ||| BitVec.ofInt 32 a).toNat:Int);rw [BitVec.or_comm]
theorem ofInt_wrap32 (x:BitVec 32):BitVec.ofInt 32 (IntKind.u32.wrap (x.toNat:Int))=x:=by
 have h:=x.isLt;have e:IntKind.u32.wrap (x.toNat:Int)=(x.toNat:Int):=by rw [IntKind.wrap_u32'];omega
 rw [e,BitVec.ofInt_natCast,BitVec.ofNat_toNat];exact BitVec.setWidth_eq x
theorem xor_assoc32 (a b c:Int):bits .xor .u32 (bits .xor .u32 a b) c=bits .xor .u32 a (bits .xor .u32 b c):=by
 show IntKind.u32.wrap ((BitVec.ofInt 32 (IntKind.u32.wrap ((BitVec.ofInt 32 a ^^^ BitVec.ofInt 32 b).toNat:Int)) ^^^ BitVec.ofInt 32 c).toNat:Int)=IntKind.u32.wrap ((BitVec.ofInt 32 a ^^^ BitVec.ofInt 32 (IntKind.u32.wrap ((BitVec.ofInt 32 b ^^^ BitVec.ofInt 32 c).toNat:Int))).toNat:Int);rw [ofInt_wrap32,ofInt_wrap32,BitVec.xor_assoc]
theorem xor_comm32 (a b:Int):bits .xor .u32 a b=bits .xor .u32 b a:=by
 show IntKind.u32.wrap ((BitVec.ofInt 32 a ^^^ BitVec.ofInt 32 b).toNat:Int)=IntKind.u32.wrap ((BitVec.ofInt 32 b ^^^ BitVec.ofInt 32 a).toNat:Int);rw [BitVec.xor_comm]
theorem add3 (a b x:Int):(a+(b+x)) % 4294967296=((a+b) % 4294967296+x) % 4294967296:=by omega
theorem results_tmp4 {fn:Func} {t u v x:Tmp} (h:fn.results=#[.tmp t,.tmp u,.tmp v,.tmp x]) (tmps:Array Value) (P:Program) (w:World) :
 (results fn tmps).run P w=.ok (.tuple #[tmps.getD t undef,tmps.getD u undef,tmps.getD v undef,tmps.getD x undef]) w:=by
 simp [results,h]
theorem results_row_tmp {P:Program} {fn:Func} {p q:Tmp} {ty:TypeId} (h:fn.results=#[.cell p ty,.tmp q]) (tmps:Array Value) (w:World) (g:Nat) (t:TypeId) (cs:Array Value) (fr:Nat × Nat) (d:TypeDesc)
 (hp:tmps.getD p undef=.pointer (some ⟨g,0,none⟩)) (hg:w.heap[g]?=some (.cells cs t fr))
 (hu:P.underlying ty=some d) (hd:(match d with | .struct _ | .array _ _=>true | _=>false)=true) (hi:(P.info? ty).map (·.size)=some cs.size) :
 (results fn tmps).run P w=.ok (.tuple #[.agg cs,tmps.getD q undef]) w:=by
 have hp':tmps[p]?.getD undef=.pointer (some ⟨g,0,none⟩):=by simpa using hp
 simp [results,h,hp',asAddr,run_loadVar_row w g t ty cs fr d hg hu hd hi]
def half (p q r s:Int) (V:List Int) (a b c d:Nat) (x:Int):List Int:=mx2 r s (mx3 (mx2 p q (mx1 V a b x) d a) c d) b c
theorem mixL_half (V:List Int) (a b c d:Nat) (x y:Int):mixL V a b c d x y=half 256 16777216 128 33554432 (half 65536 65536 4096 1048576 V a b c d x) a b c d y:=rfl
theorem half_len (p q r s:Int) (V:List Int) (a b c d:Nat) (x:Int) (h:V.length=16):(half p q r s V a b c d x).length=16:=by simp [half,mx1,mx2,mx3,h]
def hA (a b x:Int):Int:=((a+b) % 4294967296+x) % 4294967296
def hD (p q a b d x:Int):Int:=rot p q (bits .xor .u32 d (hA a b x))
def hC (p q a b c d x:Int):Int:=(c+hD p q a b d x) % 4294967296
def hB (p q r s a b c d x:Int):Int:=rot r s (bits .xor .u32 b (hC p q a b c d x))
theorem at_set_same (V:List Int) (i:Nat) (x:Int) (h:i < V.length):at_ (V.set i x) i=x:=by simp [at_,h]
theorem at_set_other (V:List Int) (i j:Nat) (x:Int) (h:i≠j):at_ (V.set i x) j=at_ V j:=by simp [at_,h]
theorem half_eq (p q r s:Int) (V:List Int) (a b c d:Nat) (x:Int) (hV:V.length=16) (ha:a < 16) (hb:b < 16) (hc:c < 16) (hd:d < 16) (hab:a≠b) (hac:a≠c) (had:a≠d) (hbc:b≠c) (hbd:b≠d) (hcd:c≠d) :
 half p q r s V a b c d x=(((V.set a (hA (at_ V a) (at_ V b) x)).set b (hB p q r s (at_ V a) (at_ V b) (at_ V c) (at_ V d) x)).set c (hC p q (at_ V a) (at_ V b) (at_ V c) (at_ V d) x)).set d (hD p q (at_ V a) (at_ V b) (at_ V d) x):=by
 unfold half;have e1:mx1 V a b x=V.set a (hA (at_ V a) (at_ V b) x):=rfl;rw [e1]
 have e2:mx2 p q (V.set a (hA (at_ V a) (at_ V b) x)) d a=(V.set a (hA (at_ V a) (at_ V b) x)).set d (hD p q (at_ V a) (at_ V b) (at_ V d) x):=by
  unfold mx2;rw [at_set_other _ _ _ _ had,at_set_same _ _ _ (by omega)];rfl
 rw [e2]
 have e3:mx3 ((V.set a (hA (at_ V a) (at_ V b) x)).set d (hD p q (at_ V a) (at_ V b) (at_ V d) x)) c d=((V.set a (hA (at_ V a) (at_ V b) x)).set d (hD p q (at_ V a) (at_ V b) (at_ V d) x)).set c (hC p q (at_ V a) (at_ V b) (at_ V c) (at_ V d) x):=by
  unfold mx3;rw [at_set_same _ _ _ (by simp;omega),at_set_other _ _ _ _ (Ne.symm hcd),at_set_other _ _ _ _ hac];rfl
 rw [e3];unfold mx2;rw [at_set_same _ _ _ (by simp;omega),at_set_other _ _ _ _ (Ne.symm hbc),at_set_other _ _ _ _ (Ne.symm hbd),at_set_other _ _ _ _ hab];rw [List.set_comm _ _ (Ne.symm hcd),List.set_comm _ _ (Ne.symm hbd),List.set_comm _ _ (Ne.symm hbc)];rfl
def put4 (w:World) (g a b c d:Nat) (xa xb xc xd:Int):World:=(((w.setCell ⟨g,a,none⟩ (.int .u32 xa)).setCell ⟨g,b,none⟩ (.int .u32 xb)).setCell ⟨g,c,none⟩ (.int .u32 xc)).setCell ⟨g,d,none⟩ (.int .u32 xd)
theorem put4_row {w:World} {g:Nat} {t:TypeId} {U:List Int} (h:Row w g t U) (a b c d:Nat) (xa xb xc xd:Int):Row (put4 w g a b c d xa xb xc xd) g t ((((U.set a xa).set b xb).set c xc).set d xd):=(((h.set a xa).set b xb).set c xc).set d xd
theorem put4_other (w:World) (g a b c d:Nat) (xa xb xc xd:Int) (k:Nat) (hk:k≠g):(put4 w g a b c d xa xb xc xd).heap[k]?=w.heap[k]?:=by
 unfold put4;rw [Below.heap_setCell _ _ _ _ (by simpa using hk),Below.heap_setCell _ _ _ _ (by simpa using hk),Below.heap_setCell _ _ _ _ (by simpa using hk),Below.heap_setCell _ _ _ _ (by simpa using hk)]
theorem put4_size (w:World) (g a b c d:Nat) (xa xb xc xd:Int):(put4 w g a b c d xa xb xc xd).heap.size=w.heap.size:=by simp [put4]
theorem put4_bel {B:Nat} {w0 w:World} (h:Below B w0 w) (g a b c d:Nat) (xa xb xc xd:Int) (hg:B≤g):Below B w0 (put4 w g a b c d xa xb xc xd) :=
 (((h.setCell (p:=⟨g,a,none⟩) hg _).setCell (p:=⟨g,b,none⟩) hg _).setCell (p:=⟨g,c,none⟩) hg _).setCell (p:=⟨g,d,none⟩) hg _
def qd:List (List Nat):=[[0,4,8,12],[1,5,9,13],[2,6,10,14],[3,7,11,15],[0,5,10,15],[1,6,11,12],[2,7,8,13],[3,4,9,14]]
def qa (k j:Nat):Nat:=(qd.getD k []).getD j 0
def mixV:Array Value:=(qd.flatten.map fun (n:Nat)=>Value.int .i64 (n:Int)).toArray
def ords:List Nat:=[81985529216486895,16881918945140062035,13312731748010193300,8733003861693448440,10400822202260547645,3200383143768358425,14204332651957162635,15816291393287259690,8064173457993569445,11710614767857974480]
def ordV:Array Value:=(ords.map fun (n:Nat)=>Value.int .u64 (n:Int)).toArray
structure G (w:World):Prop where
 g0:∃ t,w.heap[0]?=some (.cells (wv firstL) t (0,0))
 g1:∃ t,w.heap[1]?=some (.cells mixV t (0,0))
 g2:∃ t,w.heap[2]?=some (.cells ordV t (0,0))
theorem G.size {w:World} (h:G w):3≤w.heap.size:=by
 obtain ⟨t,ht⟩:=h.g2;rcases Nat.lt_or_ge 2 w.heap.size with h' | h'
 ·exact h'
 ·simp [Array.getElem?_eq_none h'] at ht
theorem G.of {w w':World} (h:G w) (hb:∀ g,g < 3→w'.heap[g]?=w.heap[g]?):G w':=by
 obtain ⟨⟨t0,h0⟩,⟨t1,h1⟩,⟨t2,h2⟩⟩:=h;exact ⟨⟨t0,(hb 0 (by omega)).trans h0⟩,⟨t1,(hb 1 (by omega)).trans h1⟩,⟨t2,(hb 2 (by omega)).trans h2⟩⟩
theorem G.below {w w':World} {b:Nat} (h:G w) (hb:Below b w w') (h3:3≤b):G w':=h.of fun g hg=>hb.block g (by omega)
theorem G.mix {w:World} (h:G w) (k j:Nat) (hk:k < 8) (hj:j < 4):w.cell? ⟨1,4*k+j,none⟩=some (.int .i64 (qa k j)):=by
 obtain ⟨t,ht⟩:=h.g1;rw [cell_of_row w 1 _ _ _ _ ht];have h1:∀ k,k < 8→∀ j,j < 4→qd.flatten[4*k+j]?=some (qa k j):=by decide
 unfold mixV;rw [List.getElem?_toArray,List.getElem?_map,h1 k hk j hj];rfl
theorem G.ord {w:World} (h:G w) (r:Nat) (hr:r < 10):w.cell? ⟨2,r,none⟩=some (.int .u64 (ords.getD r 0:Nat)):=by
 obtain ⟨t,ht⟩:=h.g2;rw [cell_of_row w 2 _ _ _ _ ht];have h1:∀ r,r < 10→ords[r]?=some (ords.getD r 0):=by decide
 unfold ordV;rw [List.getElem?_toArray,List.getElem?_map,h1 r hr];rfl
theorem G.first {w:World} (h:G w) (i:Nat) (hi:i < 8):w.cell? ⟨0,i,none⟩=some (.int .u32 (at_ firstL i)):=by
 obtain ⟨t,ht⟩:=h.g0;rw [cell_of_row w 0 _ _ _ _ ht,wv_get firstL i (by simpa [firstL] using hi),at_eq]
theorem qa_lt (k j:Nat) (hk:k < 8) (hj:j < 4):qa k j < 16:=by
 have h1:∀ k,k < 8→∀ j,j < 4→qa k j < 16:=by decide
 exact h1 k hk j hj
theorem qa_ne (k:Nat) (hk:k < 8):qa k 0≠qa k 1∧qa k 0≠qa k 2∧qa k 0≠qa k 3∧qa k 1≠qa k 2∧qa k 1≠qa k 3∧qa k 2≠qa k 3:=by
 have h1:∀ k,k < 8→qa k 0≠qa k 1∧qa k 0≠qa k 2∧qa k 0≠qa k 3∧qa k 1≠qa k 2∧qa k 1≠qa k 3∧qa k 2≠qa k 3:=by decide
 exact h1 k hk
def rk (M V:List Int) (s:Nat→Nat):Nat→List Int
 | 0=>V
 | k+1=>mixL (rk M V s k) (qa k 0) (qa k 1) (qa k 2) (qa k 3) (at_ M (s (2*k))) (at_ M (s (2*k+1)))
theorem rk_len (M V:List Int) (s:Nat→Nat) (h:V.length=16) (k:Nat):(rk M V s k).length=16:=by
 induction k with
 | zero=>exact h
 | succ k ih=>exact mixL_len _ _ _ _ _ _ _ ih
theorem rk_congr (M V:List Int) (s s':Nat→Nat) (k:Nat) (h:∀ i,i < 2*k→s i=s' i):rk M V s k=rk M V s' k:=by
 induction k with
 | zero=>rfl
 | succ k ih =>
   unfold rk;rw [ih (fun i hi=>h i (by omega)),h (2*k) (by omega),h (2*k+1) (by omega)]
end Go.Proofs.YthamoeekiglphaaGreatDoor
namespace Go.Proofs.YthamoeekiglphaaGreatDoor.Lm
def cnt (v:Nat):Nat :=
 if v=0 then 0 else if v < 256 then 1 else if v < 65536 then 2 else if v < 16777216 then 3 else if v < 4294967296 then 4
 else if v < 1099511627776 then 5 else if v < 281474976710656 then 6 else if v < 72057594037927936 then 7 else 8
def low:Nat→Nat→List UInt8
 | 0,_=>[]
 | k+1,v=>UInt8.ofNat (v / 256 ^ k)::low k v
def numL (v:Nat):List UInt8:=UInt8.ofNat (cnt v)::low (cnt v) v
def val (l:List UInt8):Nat:=l.foldl (fun a b=>256*a+b.toNat) 0
theorem low_length (k v:Nat):(low k v).length=k:=by
 induction k with
 | zero=>rfl
 | succ k ih=>simp [low,ih]
theorem foldl_val (l:List UInt8) (a:Nat):l.foldl (fun a b=>256*a+b.toNat) a=a*256 ^ l.length+val l:=by
 unfold val
 induction l generalizing a with
 | nil=>simp
 | cons b l ih =>
   simp only [List.foldl_cons,List.length_cons];rw [ih,ih (256*0+b.toNat)];rw [Nat.pow_succ];generalize 256 ^ l.length=p
   have:(256*a+b.toNat)*p=a*(p*256)+b.toNat*p:=by
    rw [Nat.add_mul,Nat.mul_comm 256 a,Nat.mul_assoc,Nat.mul_comm 256 p]
   rw [this];simp;omega
theorem val_cons (b:UInt8) (l:List UInt8):val (b::l)=b.toNat*256 ^ l.length+val l:=by
 rw [val,List.foldl_cons,foldl_val];simp
theorem val_low (k v:Nat):val (low k v)=v % 256 ^ k:=by
 induction k with
 | zero=>simp [low,val,Nat.mod_one]
 | succ k ih =>
   rw [low,val_cons,low_length,ih];have h:(UInt8.ofNat (v / 256 ^ k)).toNat=v / 256 ^ k % 256:=by simp
   rw [h,Nat.pow_succ,Nat.mod_mul,Nat.mul_comm];omega
theorem cnt_le (v:Nat):cnt v≤8:=by unfold cnt;(repeat' split)<;>omega
theorem cnt_eq (v k:Nat) (hk:k≤8) (h1:k=0∨256 ^ (k - 1)≤v) (h2:v < 256 ^ k):cnt v=k:=by
 have hk':k=0∨k=1∨k=2∨k=3∨k=4∨k=5∨k=6∨k=7∨k=8:=by omega
 unfold cnt;rcases hk' with rfl | rfl | rfl | rfl | rfl | rfl | rfl | rfl | rfl<;>simp at h1 h2<;>(repeat' split)<;>omega
theorem cnt_bounds (v:Nat) (hv:v < 2 ^ 64):v < 256 ^ cnt v∧(cnt v=0∨256 ^ (cnt v - 1)≤v):=by
 have key:∀ k,k≤8→(k=0∨256 ^ (k - 1)≤v)→v < 256 ^ k→v < 256 ^ cnt v∧(cnt v=0∨256 ^ (cnt v - 1)≤v):=by
  intro k hk h1 h2;rw [cnt_eq v k hk h1 h2];exact ⟨h2,h1⟩
 by_cases h0:v < 1
 ·exact key 0 (by omega) (.inl rfl) (by have e:(256:Nat) ^ 0=1:=(by decide);omega)
 by_cases h1:v < 256
 ·exact key 1 (by omega) (.inr (by have e:(256:Nat) ^ (1 - 1)=1:=(by decide);omega)) (by have e:(256:Nat) ^ 1=256:=(by decide);omega)
 by_cases h2:v < 65536
 ·exact key 2 (by omega) (.inr (by have e:(256:Nat) ^ (2 - 1)=256:=(by decide);omega)) (by have e:(256:Nat) ^ 2=65536:=(by decide);omega)
 by_cases h3:v < 16777216
 ·exact key 3 (by omega) (.inr (by have e:(256:Nat) ^ (3 - 1)=65536:=(by decide);omega)) (by have e:(256:Nat) ^ 3=16777216:=(by decide);omega)
 by_cases h4:v < 4294967296
 ·exact key 4 (by omega) (.inr (by have e:(256:Nat) ^ (4 - 1)=16777216:=(by decide);omega)) (by have e:(256:Nat) ^ 4=4294967296:=(by decide);omega)
 by_cases h5:v < 1099511627776
 ·exact key 5 (by omega) (.inr (by have e:(256:Nat) ^ (5 - 1)=4294967296:=(by decide);omega)) (by have e:(256:Nat) ^ 5=1099511627776:=(by decide);omega)
 by_cases h6:v < 281474976710656
 ·exact key 6 (by omega) (.inr (by have e:(256:Nat) ^ (6 - 1)=1099511627776:=(by decide);omega)) (by have e:(256:Nat) ^ 6=281474976710656:=(by decide);omega)
 by_cases h7:v < 72057594037927936
 ·exact key 7 (by omega) (.inr (by have e:(256:Nat) ^ (7 - 1)=281474976710656:=(by decide);omega)) (by have e:(256:Nat) ^ 7=72057594037927936:=(by decide);omega)
 exact key 8 (by omega) (.inr (by have e:(256:Nat) ^ (8 - 1)=72057594037927936:=(by decide);omega)) (by have e:(256:Nat) ^ 8=2 ^ 64:=(by decide);omega)
theorem cnt_mono (a b:Nat) (hb:b < 2 ^ 64) (h:a≤b):cnt a≤cnt b:=by
 obtain ⟨h1,h2⟩:=cnt_bounds a (by omega);obtain ⟨h3,h4⟩:=cnt_bounds b hb;rcases Nat.lt_or_ge (cnt b) (cnt a) with h' | h'
 ·have:256 ^ cnt b≤256 ^ (cnt a - 1):=Nat.pow_le_pow_right (by omega) (by omega)
  omega
 ·exact h'
theorem cnt_of_loop (v k:Nat) (hv:v < 2 ^ 64) (h1:k=0∨0 < v / 256 ^ (k - 1)) (h2:v / 256 ^ k=0):k=cnt v:=by
 have hp:∀ j,0 < 256 ^ j:=fun j=>Nat.pow_pos (by omega)
 have h2':v < 256 ^ k:=by
  rcases Nat.lt_or_ge v (256 ^ k) with h | h
  ·exact h
  ·have:=Nat.div_pos h (hp k);omega
 have h1':k=0∨256 ^ (k - 1)≤v:=by
  rcases h1 with h | h
  ·exact .inl h
  ·right
   rcases Nat.lt_or_ge v (256 ^ (k - 1)) with h' | h'
   ·rw [Nat.div_eq_of_lt h'] at h;omega
   ·exact h'
 have hk:k≤8:=by
  rcases h1' with h | h
  ·omega
  ·rcases Nat.lt_or_ge 8 k with h8 | h8
   ·have:256 ^ 8≤256 ^ (k - 1):=Nat.pow_le_pow_right (by omega) (by omega)
    have e:(256:Nat) ^ 8=2 ^ 64:=by decide
    omega
   ·exact h8
 exact (cnt_eq v k hk h1' h2').symm
theorem loop_le (v k:Nat) (hv:v < 2 ^ 64) (h:0 < v / 256 ^ k):k < 8:=by
 rcases Nat.lt_or_ge k 8 with h8 | h8
 ·exact h8
 ·have h1:256 ^ 8≤256 ^ k:=Nat.pow_le_pow_right (by omega) h8
  have e:(256:Nat) ^ 8=2 ^ 64:=by decide
  rw [Nat.div_eq_of_lt (by omega)] at h;omega
def takeNumL:List UInt8→Nat × List UInt8 × Nat
 | []=>(0,[],2)
 | n::r=>if 8 < n.toNat then (0,[],3) else if r.length < n.toNat then (0,[],2) else if 0 < n.toNat∧r.head?=some 0 then (0,[],3)
   else (val (r.take n.toNat),r.drop n.toNat,0)
theorem numL_length (v:Nat):(numL v).length=cnt v+1:=by simp [numL,low_length]
theorem ofNat_cnt (v:Nat):(UInt8.ofNat (cnt v)).toNat=cnt v:=by
 have:=cnt_le v;rw [UInt8.toNat_ofNat'];omega
theorem low_head (v:Nat) (hv:v < 2 ^ 64) (h:0 < cnt v):(low (cnt v) v).head?≠some 0:=by
 obtain ⟨h1,h2⟩:=cnt_bounds v hv;cases hc:cnt v with
 | zero=>omega
 | succ k =>
   rw [hc] at h1 h2;simp only [low,List.head?_cons,ne_eq,Option.some.injEq];intro h0;have:=congrArg UInt8.toNat h0;simp at this;have hk:256 ^ k≤v:=by rcases h2 with h | h;omega;simpa using h
   have hp:0 < 256 ^ k:=Nat.pow_pos (by omega);have h3:=Nat.div_pos hk hp
   have h4:v / 256 ^ k < 256:=by
    rw [Nat.div_lt_iff_lt_mul hp];rw [Nat.pow_succ] at h1;omega
   omega
theorem take_num (v:Nat) (hv:v < 2 ^ 64) (more:List UInt8):takeNumL (numL v++more)=(v,more,0):=by
 have h8:=cnt_le v;have hl:=low_length (cnt v) v;have hb:=(cnt_bounds v hv).1;rw [numL,List.cons_append,takeNumL,ofNat_cnt]
 rw [if_neg (by omega),if_neg (by simp [hl]),if_neg,List.take_append_of_le_length (by omega),List.drop_append_of_le_length (by omega),
  List.take_of_length_le (by omega),List.drop_of_length_le (by omega),val_low,Nat.mod_eq_of_lt hb]
 ·simp
 ·rintro ⟨h0,h⟩
  apply low_head v hv h0;rw [← h];cases hc:low (cnt v) v with
  | nil=>simp [hc] at hl;omega
  | cons a l=>simp
/-! ### Lengths, texts, rows -/
def lenL (n:Nat):List UInt8:=if n≤250 then [UInt8.ofNat n] else [251,UInt8.ofNat (n / 256),UInt8.ofNat (n % 256)]
def sizeL:List UInt8→Nat × List UInt8 × Nat
 | []=>(0,[],2)
 | n::r=>if n.toNat≤250 then (n.toNat,r,0) else if 251 < n.toNat then (0,[],3) else
   match r with
   | a::b::r'=>if 256*a.toNat+b.toNat≤250 then (0,[],3) else (256*a.toNat+b.toNat,r',0)
   | _=>(0,[],2)
def takeLenL (s:List UInt8) (most:Int):Nat × List UInt8 × Nat :=
 if (sizeL s).2.2≠0 then (0,[],(sizeL s).2.2) else if most < (sizeL s).1 then (0,[],4) else sizeL s
def textL (t:List UInt8):List UInt8 × Nat:=if 65535 < t.length then ([],4) else (lenL t.length++t,0)
def takeTextL (s:List UInt8) (most:Int):List UInt8 × List UInt8 × Nat :=
 if (takeLenL s most).2.2≠0 then ([],[],(takeLenL s most).2.2)
 else if (takeLenL s most).2.1.length < (takeLenL s most).1 then ([],[],2)
 else ((takeLenL s most).2.1.take (takeLenL s most).1,(takeLenL s most).2.1.drop (takeLenL s most).1,0)
theorem size_len (n:Nat) (h:n≤65535) (more:List UInt8):sizeL (lenL n++more)=(n,more,0):=by
 unfold lenL
 by_cases h1:n≤250
 ·have e:(UInt8.ofNat n).toNat=n:=by simp;omega
  rw [if_pos h1];simp only [List.cons_append,List.nil_append,sizeL];rw [if_pos (by omega),e]
 ·have e1:(UInt8.ofNat (n / 256)).toNat=n / 256:=by simp;omega
  have e2:(UInt8.ofNat (n % 256)).toNat=n % 256:=by simp
  rw [if_neg h1];simp only [List.cons_append,List.nil_append,sizeL];rw [if_neg (by decide),if_neg (by decide),e1,e2,if_neg (by omega)];have:256*(n / 256)+n % 256=n:=by omega
  rw [this]
theorem takeLen_len (n:Nat) (h:n≤65535) (most:Int) (hm:(n:Int)≤most) (more:List UInt8):takeLenL (lenL n++more) most=(n,more,0):=by
 simp only [takeLenL,size_len n h more];simp;omega
theorem takeText_text (t:List UInt8) (h:t.length≤65535) (most:Int) (hm:(t.length:Int)≤most) (more:List UInt8):takeTextL (lenL t.length++t++more) most=(t,more,0):=by
 simp only [takeTextL,List.append_assoc,takeLen_len t.length h most hm];simp
theorem lenL_le (n:Nat):(lenL n).length≤3:=by unfold lenL;split<;>simp
end Go.Proofs.YthamoeekiglphaaGreatDoor.Lm
namespace Go.Proofs.YthamoeekiglphaaGreatDoor
set_option maxRecDepth 100000
open Go.RowKit
theorem str_info:(Tryz.prog.info? 9).map (fun i=>(i.zero,i.size,i.bytes))=some (some (.string ByteArray.empty),1,16):=by kernel_rfl
def strV (l:List (List UInt8)):List Value:=l.map fun t=>.string ⟨t.toArray⟩
theorem strV_snoc (l:List (List UInt8)) (t:List UInt8):strV (l++[t])=strV l++[.string ⟨t.toArray⟩]:=by simp [strV]
theorem strV_length (l:List (List UInt8)):(strV l).length=l.length:=by simp [strV]
theorem owns_below {B e k n:Nat} {v:Value} {xs:List Value} {w w':World} (h:w.ownsRow B e k v n xs) (hb:Below w.heap.size w w'):w'.ownsRow B e k v n xs:=by
 obtain ⟨h1,h2⟩:=h;refine ⟨h1,?_⟩;rcases h2 with h2 | ⟨g,cap,cur,hv,hbg,hg,r⟩
 ·exact .inl h2
 ·have hlt:g < w.heap.size:=by
   rcases Nat.lt_or_ge g w.heap.size with h' | h'
   ·exact h'
   ·simp [Array.getElem?_eq_none h'] at hg
  exact .inr ⟨g,cap,cur,hv,hbg,(hb.block g hlt).trans hg,r⟩
set_option linter.unusedVariables false
def IsTxt (w:World) (v:Value) (ss:List (List UInt8)):Prop :=
 ∃ a n cap,v=.slice a n cap∧ss.length=n∧n≤cap∧cap≤9223372036854775807∧n≤140737488351232∧(∀ s∈ss,s.length≤1125899906842624) ∧
 (n=0∨∃ b off,a=some ⟨b,off,none⟩∧b < w.heap.size∧∀ i (h:i < ss.length),w.cell? ⟨b,off+i,none⟩=some (.string ⟨ss[i].toArray⟩))
theorem IsTxt.below {w w':World} {v:Value} {ss:List (List UInt8)} (h:IsTxt w v ss) (hb:Below w.heap.size w w'):IsTxt w' v ss:=by
 obtain ⟨a,n,cap,hv,h1,h2,h3,h4,h5,h6⟩:=h;refine ⟨a,n,cap,hv,h1,h2,h3,h4,h5,?_⟩;rcases h6 with h6 | ⟨b,off,ha,hlt,hc⟩
 ·exact .inl h6
 ·refine .inr ⟨b,off,ha,Nat.lt_of_lt_of_le hlt hb.size,fun i hi=>?_⟩
  rw [hb.cell (p:=⟨b,off+i,none⟩) hlt];exact hc i hi
theorem IsTxt.at {w:World} {v:Value} {ss:List (List UInt8)} (h:IsTxt w v ss) (h0:0 < ss.length):∃ b off cap,v=.slice (some ⟨b,off,none⟩) ss.length cap∧b < w.heap.size∧ss.length≤cap∧cap≤9223372036854775807∧ss.length≤140737488351232∧Hid (∀ i (h:i < ss.length),w.cell? ⟨b,off+i,none⟩=some (.string ⟨ss[i].toArray⟩)):=by
 obtain ⟨a,n,cap,rfl,rfl,h2,h3,h4,h5,h6⟩:=h;rcases h6 with h6 | ⟨b,off,rfl,hlt,hc⟩
 ·omega
 ·exact ⟨b,off,cap,rfl,hlt,h2,h3,h4,hc⟩
theorem IsTxt.len {w:World} {v:Value} {ss:List (List UInt8)} (h:IsTxt w v ss):∃ a cap,v=.slice a ss.length cap∧ss.length≤cap∧cap≤9223372036854775807∧ss.length≤140737488351232:=by
 obtain ⟨a,n,cap,rfl,rfl,h2,h3,h4,h5,h6⟩:=h;exact ⟨a,cap,rfl,h2,h3,h4⟩
theorem IsTxt.bound {w:World} {v:Value} {ss:List (List UInt8)} (h:IsTxt w v ss):∀ s∈ss,s.length≤1125899906842624:=by
 obtain ⟨a,n,cap,rfl,rfl,h2,h3,h4,h5,h6⟩:=h;exact h5
theorem IsTxt.take {w:World} {b off cap:Nat} {ss:List (List UInt8)} (h:IsTxt w (.slice (some ⟨b,off,none⟩) ss.length cap) ss) (k:Nat) (hk:k≤ss.length) (h0:0 < ss.length):IsTxt w (.slice (some ⟨b,off,none⟩) k cap) (ss.take k):=by
 obtain ⟨a,n,c,hv,h1,h2,h3,h4,h5,h6⟩:=h;obtain ⟨rfl,rfl,rfl⟩:a=some ⟨b,off,none⟩∧n=ss.length∧c=cap:=by simpa [eq_comm] using hv
 refine ⟨_,_,_,rfl,by simp;omega,by omega,h3,by omega,fun s hs=>h5 s (List.mem_of_mem_take hs),?_⟩;rcases h6 with h6 | ⟨b',off',ha,hlt,hc⟩
 ·omega
 ·obtain ⟨rfl,rfl⟩:b=b'∧off=off':=by simpa using ha
  refine .inr ⟨b,off,rfl,hlt,fun i hi=>?_⟩;rw [hc i (by simp at hi;omega),List.getElem_take]
theorem IsTxt.drop {w:World} {b off cap:Nat} {ss:List (List UInt8)} (h:IsTxt w (.slice (some ⟨b,off,none⟩) ss.length cap) ss) (k:Nat) (hk:k≤ss.length) (h0:0 < ss.length):IsTxt w (.slice (some ⟨b,off+k,none⟩) (ss.length - k) (cap - k)) (ss.drop k):=by
 obtain ⟨a,n,c,hv,h1,h2,h3,h4,h5,h6⟩:=h;obtain ⟨rfl,rfl,rfl⟩:a=some ⟨b,off,none⟩∧n=ss.length∧c=cap:=by simpa [eq_comm] using hv
 refine ⟨_,_,_,rfl,by simp,by omega,by omega,by omega,fun s hs=>h5 s (List.mem_of_mem_drop hs),?_⟩;rcases h6 with h6 | ⟨b',off',ha,hlt,hc⟩
 ·omega
 ·obtain ⟨rfl,rfl⟩:b=b'∧off=off':=by simpa using ha
  refine .inr ⟨b,off+k,rfl,hlt,fun i hi=>?_⟩;rw [Nat.add_assoc,hc (k+i) (by simp at hi;omega),List.getElem_drop]
theorem IsTxt.nil (w:World):IsTxt w (.slice none 0 0) []:=⟨none,0,0,rfl,rfl,by omega,by omega,by omega,(fun s hs=>by cases hs),.inl rfl⟩
theorem IsTxt.own {w:World} {B:Nat} {v:Value} {n:Nat} {l:List (List UInt8)} (h:w.ownsRow B 9 1 v n (strV l)) (hn:n≤140737488351232) (hl:∀ t∈l,t.length≤1125899906842624):IsTxt w v l:=by
 obtain ⟨h1,h2⟩:=h;rw [strV_length] at h1;rcases h2 with ⟨rfl,rfl⟩ | ⟨g,cap,cur,rfl,hbg,hg,hnc,hcm,hcs,htake⟩
 ·obtain rfl:l=[]:=List.length_eq_zero_iff.1 (by omega)
  exact IsTxt.nil w
 ·refine ⟨_,_,_,rfl,by omega,hnc,by unfold maxLen at hcm;omega,hn,hl,.inr ⟨g,0,rfl,(Array.getElem?_eq_some_iff.1 hg).1,?_⟩⟩
  intro i hi;rw [Lib.cell_of_heap hg,Nat.zero_add]
  have e:cur.toList[i]?=(strV l)[i]?:=by
   rw [← htake,List.getElem?_take_of_lt (by omega)]
  rw [← Array.getElem?_toList,e];simp [strV,hi]
theorem IsTxt.some_at {w:World} {v:Value} {ss:List (List UInt8)} (h:IsTxt w v ss):∃ a cap,v=.slice a ss.length cap∧ss.length≤cap∧cap≤9223372036854775807∧ss.length≤140737488351232∧Hid (∀ k (h:k < ss.length),∃ b off,a=some ⟨b,off,none⟩∧b < w.heap.size∧w.cell? ⟨b,off+k,none⟩=some (.string ⟨ss[k].toArray⟩)):=by
 obtain ⟨a,n,cap,rfl,rfl,h2,h3,h4,h5,h6⟩:=h;refine ⟨a,cap,rfl,h2,h3,h4,?_⟩;intro k hk;rcases h6 with h6 | ⟨b,off,rfl,hlt,hc⟩
 ·omega
 ·exact ⟨b,off,rfl,hlt,hc k hk⟩
end Go.Proofs.YthamoeekiglphaaGreatDoor
namespace Go.Proofs.YthamoeekiglphaaGreatDoor
set_option maxRecDepth 100000
open Go.RowKit Go.ChangeShapes Go.WideShapes
set_option linter.unusedVariables false
section
variable {α:Type}
def IsRec (sz:Nat) (enc:α→List Value) (w:World) (v:Value) (L:List α):Prop :=
 ∃ a n cap,v=.slice a n cap∧L.length=n∧n≤cap∧cap≤9223372036854775807∧n≤140737488351232 ∧
 (n=0∨∃ b off,a=some ⟨b,off,none⟩∧b < w.heap.size∧∀ i (h:i < L.length) j u,(enc L[i])[j]?=some u→w.cell? ⟨b,off+i*sz+j,none⟩=some u)
theorem IsRec.below {sz:Nat} {enc:α→List Value} {w w':World} {v:Value} {L:List α} (h:IsRec sz enc w v L) (hb:Below w.heap.size w w'):IsRec sz enc w' v L:=by
 obtain ⟨a,n,cap,hv,h1,h2,h3,h4,h6⟩:=h;refine ⟨a,n,cap,hv,h1,h2,h3,h4,?_⟩;rcases h6 with h6 | ⟨b,off,ha,hlt,hc⟩
 ·exact .inl h6
 ·refine .inr ⟨b,off,ha,Nat.lt_of_lt_of_le hlt hb.size,fun i hi j u hu=>?_⟩
  rw [hb.cell (p:=⟨b,off+i*sz+j,none⟩) hlt];exact hc i hi j u hu
theorem IsRec.some_at {sz:Nat} {enc:α→List Value} {w:World} {v:Value} {L:List α} (h:IsRec sz enc w v L):∃ a cap,v=.slice a L.length cap∧L.length≤cap∧cap≤9223372036854775807∧L.length≤140737488351232∧Hid (∀ k (h:k < L.length),∃ b off,a=some ⟨b,off,none⟩∧b < w.heap.size∧∀ j u,(enc L[k])[j]?=some u→w.cell? ⟨b,off+k*sz+j,none⟩=some u):=by
 obtain ⟨a,n,cap,rfl,rfl,h2,h3,h4,h6⟩:=h;refine ⟨a,cap,rfl,h2,h3,h4,?_⟩;intro k hk;rcases h6 with h6 | ⟨b,off,rfl,hlt,hc⟩
 ·omega
 ·exact ⟨b,off,rfl,hlt,hc k hk⟩
theorem IsRec.nil (sz:Nat) (enc:α→List Value) (w:World):IsRec sz enc w (.slice none 0 0) []:=⟨none,0,0,rfl,rfl,by omega,by omega,by omega,.inl rfl⟩
def recV (enc:α→List Value) (L:List α):List Value:=L.flatMap enc
theorem recV_snoc (enc:α→List Value) (L:List α) (x:α):recV enc (L++[x])=recV enc L++enc x:=by simp [recV]
theorem recV_append (enc:α→List Value) (L M:List α):recV enc (L++M)=recV enc L++recV enc M:=by simp [recV]
theorem recV_length {sz:Nat} {enc:α→List Value} (hz:∀ x,(enc x).length=sz):∀ L,(recV enc L).length=L.length*sz
 | []=>by simp [recV]
 | x::L=>by
   have:=recV_length hz L;unfold recV at this ⊢;rw [List.flatMap_cons,List.length_append,hz,this,List.length_cons,Nat.succ_mul];omega
theorem recV_get {sz:Nat} {enc:α→List Value} (hz:∀ x,(enc x).length=sz):∀ (L:List α) (i:Nat) (h:i < L.length) (j:Nat) (hj:j < sz),(recV enc L)[i*sz+j]?=(enc L[i])[j]?
 | [],i,h,j,hj=>by simp at h
 | x::L,0,h,j,hj=>by
   unfold recV;rw [List.flatMap_cons,Nat.zero_mul,Nat.zero_add,List.getElem?_append_left (by rw [hz];exact hj)];rfl
 | x::L,i+1,h,j,hj=>by
   have:=recV_get hz L i (by simp at h;omega) j hj;unfold recV at this ⊢;rw [List.flatMap_cons,List.getElem?_append_right (by rw [hz,Nat.succ_mul];omega),hz,show (i+1)*sz+j - sz=i*sz+j by rw [Nat.succ_mul];omega,this];simp
theorem recV_one {enc:α→List Value} (h1:∀ x,∀ u∈enc x,u.oneCell'=true) (L:List α):∀ u∈recV enc L,u.oneCell'=true:=by
 intro u hu;obtain ⟨x,_,hx⟩:=List.mem_flatMap.1 hu;exact h1 x u hx
theorem IsRec.own {sz:Nat} {enc:α→List Value} (hz:∀ x,(enc x).length=sz) (hs:0 < sz) {w:World} {B e:Nat} {v:Value} {n:Nat} {L:List α} (h:w.ownsRow B e sz v n (recV enc L)) (hn:n≤140737488351232):IsRec sz enc w v L:=by
 obtain ⟨h1,h2⟩:=h;rw [recV_length hz] at h1;have hln:L.length=n:=Nat.eq_of_mul_eq_mul_right hs h1;rcases h2 with ⟨rfl,rfl⟩ | ⟨g,cap,cur,rfl,hbg,hg,hnc,hcm,hcs,htake⟩
 ·obtain rfl:L=[]:=List.length_eq_zero_iff.1 hln
  exact IsRec.nil sz enc w
 ·refine ⟨_,_,_,rfl,hln,hnc,by unfold maxLen at hcm;omega,hn,.inr ⟨g,0,rfl,(Array.getElem?_eq_some_iff.1 hg).1,?_⟩⟩
  intro i hi j u hu;have hj:j < sz:=by rw [← hz L[i]];exact (List.getElem?_eq_some_iff.1 hu).1
  rw [Lib.cell_of_heap hg,Nat.zero_add]
  have hlt:i*sz+j < n*sz:=by
   have:(i+1)*sz≤n*sz:=Nat.mul_le_mul_right _ (by omega);rw [Nat.succ_mul] at this;omega
  have e:cur.toList[i*sz+j]?=(recV enc L)[i*sz+j]?:=by rw [← htake,List.getElem?_take_of_lt hlt]
  rw [← Array.getElem?_toList,e,recV_get hz L i hi j hj];exact hu
theorem list_of (R:Nat→α→Prop):∀ n,(∀ i,i < n→∃ x,R i x)→∃ L:List α,L.length=n∧∀ i (h:i < L.length),R i L[i]
 | 0,_=>⟨[],rfl,fun i h=>by simp at h⟩
 | n+1,h=>by
   obtain ⟨L,hl,hL⟩:=list_of R n (fun i hi=>h i (by omega));obtain ⟨x,hx⟩:=h n (by omega);refine ⟨L++[x],by simp [hl],fun i hi=>?_⟩
   by_cases hin:i < L.length
   ·rw [List.getElem_append_left hin];exact hL i hin
   ·simp at hi
    obtain rfl:i=n:=by omega
    rw [List.getElem_append_right (by omega)];simpa using hx
theorem rec_cells {sz:Nat} {rec:α→List Value} (good:α→Prop) {H:Type} {enc:TypeId × Value→H} {P:Program} {W:World} {t e:TypeId} {m:Nat} {c:Value} {d:DataW H} {p:List MemPlace} (by_:Nat)
 (ht:P.underlying t=some (.slice e)) (hC:P.cellsOf e=sz) (hs:0 < sz) (hB:P.bytesOf e=by_) (hb8:8≤by_)
 (hel:∀ n cs' d' p',cs'.length=sz→DataW.trod enc P W 0 (fun _=>true) true n e cs'=some (d',p')→(DataW.weights P e d').all (·≤ reachBytes)=true→∃ x,cs'=rec x∧good x)
 (hf:DataW.trod enc P W 0 (fun _=>true) true m t [c]=some (d,p)) (hw:(DataW.weights P t d).all (·≤ reachBytes)=true):∃ L:List α,IsRec sz rec W c L∧(∀ x∈L,good x)∧L.length*by_≤reachBytes:=by
 rcases Go.Deep.open_slice ht hf with ⟨hcs,_⟩ | ⟨a,len,cap,mm,n,D,Pl,hcs,_,hl,hm,hmm,hx,hall⟩
 ·simp at hcs
  subst hcs;exact ⟨[],IsRec.nil sz rec W,by simp,by simp⟩
 ·simp at hcs
  subst hcs;simp only [if_true] at hmm;have hd:=congrArg Prod.fst hx;simp only at hd;subst hd;simp only [DataW.weights,ht,List.all_cons,Bool.and_eq_true,decide_eq_true_eq,List.all_append] at hw;obtain ⟨hw1,hw2,hw3⟩:=hw;rw [hB] at hw1;simp only [List.length_map,List.length_range] at hw1
  have hmem:∀ (ds:List (DataW H)),(DataW.weightsAll P e ds).all (·≤ reachBytes)=true→∀ d∈ds,(DataW.weights P e d).all (·≤ reachBytes)=true:=by
   intro ds
   induction ds with
   | nil=>intro _ d hd;cases hd
   | cons a r ih =>
     intro h d hd;rw [DataW.weightsAll,List.all_append,Bool.and_eq_true] at h;rcases List.mem_cons.1 hd with rfl | hd
     ·exact h.1
     ·exact ih h.2 d hd
  have hlen:len*by_≤reachBytes:=Nat.le_trans (Nat.mul_le_mul_right _ (by omega)) hw1
  obtain ⟨L,hLl,hL⟩:=list_of (fun i x=>W.cells? 0 (a.add (i*P.cellsOf e)) (P.cellsOf e)=some (rec x)∧good x) len (fun i hi=>by
   obtain ⟨cs',h1,h2⟩:=hall i (by omega);obtain ⟨_,hcl,_⟩:=World.cells?_some h1;have g:=hmem _ hw2 (D i) (List.mem_map.2 ⟨i,List.mem_range.2 hi,rfl⟩);obtain ⟨x,hx1,hx2⟩:=hel n cs' _ _ (by rw [hcl,hC]) h2 g;exact ⟨x,by rw [h1,hx1],hx2⟩)
  refine ⟨L,?_,?_,by rw [hLl];exact hlen⟩
  ·refine ⟨_,_,_,rfl,hLl,hl,by unfold maxLen at hm;omega,?_,?_⟩
   ·have h8:len*8≤len*by_:=Nat.mul_le_mul_left _ hb8
    unfold reachBytes at hlen;omega
   ·by_cases h0:len=0
    ·exact .inl h0
    ·right
     have h00:=(hL 0 (by omega)).1;obtain ⟨b,off,spot⟩:=a
     have hcell:∀ i (h:i < L.length) j u,(rec L[i])[j]?=some u→W.cell? ((⟨b,off,spot⟩:Addr).add (i*sz+j))=some u:=by
      intro i hi j u hu;have h1:=(hL i hi).1;obtain ⟨_,hcl,hcc⟩:=World.cells?_some h1;have hj:j < P.cellsOf e:=by rw [← hcl];exact (List.getElem?_eq_some_iff.1 hu).1
      have:=hcc j hj;rw [Go.Deep.add_add,hC] at this;rw [this,hu]
     have hsz:0 < (rec L[0]).length:=by
      obtain ⟨_,hcl,_⟩:=World.cells?_some h00;omega
     have hc0:=hcell 0 (by omega) 0 _ (List.getElem?_eq_getElem hsz);have hspot:spot=none:=by simpa [Addr.add] using World.cell?_spot hc0
     subst hspot
     have hlt:b < W.heap.size:=by
      rcases Nat.lt_or_ge b W.heap.size with h' | h'
      ·exact h'
      ·simp [World.cell?,Addr.add,Array.getElem?_eq_none h'] at hc0
     refine ⟨b,off,rfl,hlt,fun i hi j u hu=>?_⟩;have:=hcell i hi j u hu;rw [show (⟨b,off,none⟩:Addr).add (i*sz+j)=⟨b,off+i*sz+j,none⟩ by simp [Addr.add,Nat.add_assoc]] at this;exact this
  ·intro x hx
   obtain ⟨i,hi,rfl⟩:=List.getElem_of_mem hx;exact (hL i hi).2
end
end Go.Proofs.YthamoeekiglphaaGreatDoor
namespace Go.Proofs.YthamoeekiglphaaGreatDoor
set_option maxRecDepth 100000
set_option linter.unusedVariables false
abbrev Ev:=Int × Int × List UInt8 × List UInt8
abbrev keyedE (k:Int):Prop:=k=2∨k=3
abbrev mayE (x:Ev):Prop:=(1≤x.1∧x.1≤5∧1≤x.2.1∧x.2.1≤32)∧(if keyedE x.1 then (1≤x.2.2.1.length∧x.2.2.1.length≤32∧x.2.2.2.length≤32∧(x.1=2∨1≤x.2.2.2.length)) else (x.2.2.1=[]∧x.2.2.2=[]))
def txtE (t:List UInt8):List UInt8:=Lm.lenL t.length++t
def bytE (x:Ev):List UInt8:=UInt8.ofNat x.1.toNat::UInt8.ofNat x.2.1.toNat::(if keyedE x.1 then txtE x.2.2.1++txtE x.2.2.2 else [])
def bytesE (x:Ev):List UInt8 × Nat:=if mayE x then (bytE x,0) else ([],1)
def takeE (s:List UInt8):Option Ev :=
 match s with
 | a::b::r =>
   if keyedE (a.toNat:Int) then
    if (Lm.takeTextL r 32).2.2≠0 then none
    else if (Lm.takeTextL (Lm.takeTextL r 32).2.1 32).2.2≠0∨0 < (Lm.takeTextL (Lm.takeTextL r 32).2.1 32).2.1.length then none
    else if mayE ((a.toNat:Int),(b.toNat:Int),(Lm.takeTextL r 32).1,(Lm.takeTextL (Lm.takeTextL r 32).2.1 32).1) then some ((a.toNat:Int),(b.toNat:Int),(Lm.takeTextL r 32).1,(Lm.takeTextL (Lm.takeTextL r 32).2.1 32).1) else none
   else if 0 < r.length∨¬ mayE ((a.toNat:Int),(b.toNat:Int),[],[]) then none else some ((a.toNat:Int),(b.toNat:Int),[],[])
 | _=>none
theorem txt_taken (t:List UInt8) (h:t.length≤32) (r:List UInt8):Lm.takeTextL (txtE t++r) 32=(t,r,0):=Lm.takeText_text t (by omega) 32 (by omega) r
theorem may_bytes (x:Ev) (h:mayE x):(UInt8.ofNat x.1.toNat).toNat=x.1.toNat∧(UInt8.ofNat x.2.1.toNat).toNat=x.2.1.toNat∧((x.1.toNat:Nat):Int)=x.1∧((x.2.1.toNat:Nat):Int)=x.2.1:=by
 obtain ⟨⟨h1,h2,h3,h4⟩,_⟩:=h;refine ⟨?_,?_,by omega,by omega⟩
 ·simp;omega
 ·simp;omega
theorem take_byt (x:Ev) (h:mayE x) (m:List UInt8):takeE (bytE x++m)=if m=[] then some x else none:=by
 obtain ⟨e1,e2,e3,e4⟩:=may_bytes x h;have hx:x=(x.1,x.2.1,x.2.2.1,x.2.2.2):=rfl;unfold bytE takeE
 by_cases hk:keyedE x.1
 ·rw [if_pos hk]
  obtain ⟨h0,h5⟩:=h;have h5':=h5;rw [if_pos hk] at h5;obtain ⟨k1,k2,k3,k4⟩:=h5;simp only [List.cons_append,e1,e2,e3,e4];rw [if_pos hk,List.append_assoc,txt_taken x.2.2.1 k2];simp only;rw [if_neg (by simp),txt_taken x.2.2.2 k3 m];simp only
  by_cases hm:m=[]
  ·subst hm
   rw [if_neg (by simp),if_pos ⟨h0,h5'⟩,if_pos rfl]
  ·rw [if_pos (Or.inr (List.length_pos_iff.2 hm)),if_neg hm]
 ·rw [if_neg hk]
  obtain ⟨h0,h5⟩:=h;have h5':=h5;rw [if_neg hk] at h5;simp only [List.cons_append,List.nil_append,e1,e2,e3,e4];rw [if_neg hk];have ex:(x.1,x.2.1,([]:List UInt8),([]:List UInt8))=x:=by rw [hx];simp only [h5.1,h5.2]
  by_cases hm:m=[]
  ·subst hm
   rw [if_neg (by intro hh;rcases hh with hh | hh;simp at hh;exact hh (by rw [ex];exact ⟨h0,h5'⟩)),if_pos rfl,ex]
  ·rw [if_pos (Or.inl (List.length_pos_iff.2 hm)),if_neg hm]
theorem byt_inj (x y:Ev) (hx:mayE x) (hy:mayE y) (h:bytE x=bytE y):x=y:=by
 have h1:=take_byt x hx [];have h2:=take_byt y hy [];rw [List.append_nil,if_pos rfl] at h1 h2;rw [h,h2] at h1;exact (Option.some.inj h1).symm
end Go.Proofs.YthamoeekiglphaaGreatDoor
namespace Go.Proofs.YthamoeekiglphaaGreatDoor
set_option maxRecDepth 100000
open Go.RowKit Go.ChangeShapes Go.WideShapes
set_option linter.unusedVariables false
def evV (x:Ev):List Value:=[.int .i64 x.1,.int .i64 x.2.1,.string ⟨x.2.2.1.toArray⟩,.string ⟨x.2.2.2.toArray⟩]
theorem evV_len (x:Ev):(evV x).length=4:=rfl
theorem evV_one (x:Ev):∀ u∈evV x,u.oneCell'=true:=by
 intro u hu;simp [evV] at hu;rcases hu with rfl | rfl | rfl | rfl<;>rfl
def goodE (x:Ev):Prop:=(-9223372036854775808≤x.1∧x.1≤9223372036854775807)∧(-9223372036854775808≤x.2.1∧x.2.1≤9223372036854775807)∧x.2.2.1.length≤140737488351232∧x.2.2.2.length≤140737488351232
abbrev IsEvs (w:World) (v:Value) (L:List Ev):Prop:=IsRec 4 evV w v L
theorem IsEvs.at {w:World} {b off:Nat} {L:List Ev} {k:Nat} (hk:k < L.length) (h:∀ j u,(evV L[k])[j]?=some u→w.cell? ⟨b,off+k*4+j,none⟩=some u) :
 w.cell? ⟨b,off+k*4,none⟩=some (.int .i64 L[k].1)∧w.cell? ⟨b,off+k*4+1,none⟩=some (.int .i64 L[k].2.1)∧w.cell? ⟨b,off+k*4+2,none⟩=some (.string ⟨L[k].2.2.1.toArray⟩)∧w.cell? ⟨b,off+k*4+3,none⟩=some (.string ⟨L[k].2.2.2.toArray⟩) :=
 ⟨h 0 _ rfl,h 1 _ rfl,h 2 _ rfl,h 3 _ rfl⟩
theorem mayE_range {k t:Int} {a b:List UInt8} (h:mayE (k,t,a,b)):1≤k∧k≤5∧1≤t∧t≤32:=h.1
theorem mayE_key {k t:Int} {a b:List UInt8} (h:k=2∨k=3):mayE (k,t,a,b)↔(1≤k∧k≤5∧1≤t∧t≤32)∧(1≤a.length∧a.length≤32∧b.length≤32∧(k=2∨1≤b.length)):=by
 unfold mayE;simp only;rw [if_pos (show keyedE k from h)]
theorem mayE_unkey {k t:Int} {a b:List UInt8} (h:¬ (k=2∨k=3)):mayE (k,t,a,b)↔(1≤k∧k≤5∧1≤t∧t≤32)∧(a=[]∧b=[]):=by
 unfold mayE;simp only;rw [if_neg (show ¬ keyedE k from h)]
theorem box_cell {w w1:World} {c:Array Value} {t:TypeId} (b:Below (w.alloc (.cells c t)).heap.size (w.alloc (.cells c t)) w1) (j:Nat) (u:Value) (h:c[j]?=some u):w1.cell? ⟨w.heap.size,j,none⟩=some u :=
 (b.cell (p:=⟨w.heap.size,j,none⟩) (by simp)).trans (by rw [World.cell?_alloc_new];exact h)
theorem box_cell_al {w w1:World} {c:Array Value} {t:TypeId} (b:Below (w.alloc (.cells c t)).heap.size (w.alloc (.cells c t)) w1) (j:Nat) (u:Value) (h:c[j]?=some u) (o:Obj):(w1.alloc o).cell? ⟨w.heap.size,j,none⟩=some u :=
 box_cell (b.alloc b.size o) j u h
theorem i64_wf {n:Int} (h:(Lit.int .i64 n).wf=true):-9223372036854775808≤n∧n≤9223372036854775807:=by
 simp [Lit.wf,IntKind.min,IntKind.max,IntKind.signed,IntKind.bits] at h;omega
section
variable {H:Type} {enc:TypeId × Value→H} {P:Program} {W:World}
theorem ev_elem {e:TypeId} {f0 f1 f2 f3:Field} (hs:P.underlying e=some (.struct #[f0,f1,f2,f3])) (hone:Go.Deep.oneCellFields P #[f0,f1,f2,f3]=true)
 (u0:P.underlying f0.type=some (.int .i64)) (u1:P.underlying f1.type=some (.int .i64)) (u2:P.underlying f2.type=some .string) (u3:P.underlying f3.type=some .string)
 (n:Nat) (cs':List Value) (d':DataW H) (p':List MemPlace) (hl:cs'.length=4) (h:DataW.trod enc P W 0 (fun _=>true) true n e cs'=some (d',p')) (hw:(DataW.weights P e d').all (·≤ reachBytes)=true):∃ x,cs'=evV x∧goodE x:=by
 obtain ⟨xs,k,_,hx,hcl,hlen,hel⟩:=DataW.trod_struct hs h;have hlen':xs.length=4:=hlen
 match xs,hlen',cs',hl with
 | [y0,y1,y2,y3],_,[c0,c1,c2,c3],_ =>
   obtain ⟨o0,k0⟩:=Go.Deep.hone_of hone 0 f0 rfl;obtain ⟨o1,k1⟩:=Go.Deep.hone_of hone 1 f1 rfl;obtain ⟨o2,k2⟩:=Go.Deep.hone_of hone 2 f2 rfl;obtain ⟨o3,k3⟩:=Go.Deep.hone_of hone 3 f3 rfl;have g0:=hel 0 f0 rfl;have g1:=hel 1 f1 rfl;have g2:=hel 2 f2 rfl;have g3:=hel 3 f3 rfl;simp [o0,o1,o2,o3,k0,k1,k2,k3] at g0 g1 g2 g3;obtain ⟨n0,e0,rfl,w0⟩:=DataW.trod_int u0 g0;obtain ⟨n1,e1,rfl,w1⟩:=DataW.trod_int u1 g1;obtain ⟨s2,e2,rfl,_⟩:=DataW.trod_string u2 g2;obtain ⟨s3,e3,rfl,_⟩:=DataW.trod_string u3 g3;have hd:=congrArg Prod.fst hx;simp at hd;subst hd;simp at e0 e1 e2 e3;subst e0 e1 e2 e3;simp only [DataW.weights,DataW.weightsEach,hs,List.map_cons,List.map_nil,List.append_nil,List.nil_append,List.all_append,List.all_cons,List.all_nil,Bool.and_true,Bool.and_eq_true] at hw
   refine ⟨(n0,n1,s2.data.toList,s3.data.toList),rfl,i64_wf w0,i64_wf w1,?_,?_⟩
   ·exact of_decide_eq_true hw.1
   ·exact of_decide_eq_true hw.2
end
end Go.Proofs.YthamoeekiglphaaGreatDoor
namespace Go.Proofs.YthamoeekiglphaaGreatDoor
set_option maxRecDepth 100000
open Go.ChangeShapes Go.WideShapes Go.ChangeAt Go.RowKit
set_option linter.unusedVariables false
theorem ev_cells {H:Type} {enc:TypeId × Value→H} {W:World} {m:Nat} {c:Value} {d:DataW H} {p:List MemPlace}
 (hf:DataW.trod enc Tryz.prog W 0 (fun _=>true) true m 42 [c]=some (d,p)) (hw:(DataW.weights Tryz.prog 42 d).all (·≤ reachBytes)=true):∃ L:List Ev,IsEvs W c L∧(∀ x∈L,goodE x)∧L.length*48≤reachBytes :=
 rec_cells goodE 48 Tryz.underlying42 (by kernel_rfl) (by omega) (by kernel_rfl) (by omega)
  (fun n cs' d' p' hl h hw'=>ev_elem Tryz.underlying53 (by kernel_rfl) (by kernel_rfl) (by kernel_rfl) (by kernel_rfl) (by kernel_rfl) n cs' d' p' hl h hw') hf hw
theorem ev_arg {H:Type} {enc:TypeId × Value→H} {W:World} {v:Value} {d:DataW H} {p:List MemPlace} (hv:∃ a n c,v=.slice a n c)
 (h:DataW.Trod enc Tryz.prog W 0 (fun _=>true) true 42 v d p) (hw:(DataW.weights Tryz.prog 42 d).all (·≤ reachBytes)=true):∃ L:List Ev,IsEvs W v L∧(∀ x∈L,goodE x)∧L.length*48≤reachBytes:=by
 obtain ⟨a,n,c,rfl⟩:=hv;obtain ⟨fuel,hf⟩:=h;exact ev_cells (by simpa [Value.cells] using hf) hw
end Go.Proofs.YthamoeekiglphaaGreatDoor
namespace Go.Proofs.YthamoeekiglphaaGreatDoor
set_option maxRecDepth 100000
set_option linter.unusedVariables false
def fi (p:Nat→Bool) (n:Nat):Option Nat:=(List.range n).find? p
def la (p:Nat→Bool):Nat→Option Nat
 | 0=>none
 | n+1=>if p n=true then some n else la p n
theorem fi_zero (p:Nat→Bool):fi p 0=none:=rfl
theorem fi_succ (p:Nat→Bool) (n:Nat):fi p (n+1)=(fi p n).or (if p n=true then some n else none):=by
 unfold fi;rw [List.range_succ,List.find?_append]
 congr 1
 by_cases h:p n=true
 ·rw [if_pos h,List.find?_cons_of_pos h]
 ·rw [if_neg h,List.find?_cons_of_neg h];rfl
theorem fi_none (p:Nat→Bool) (n:Nat):fi p n=none↔∀ i,i < n→p i=false:=by
 unfold fi;rw [List.find?_eq_none]
 constructor
 ·intro h i hi
  have:=h i (List.mem_range.2 hi);simpa using this
 ·intro h i hi
  have:=h i (List.mem_range.1 hi);simp [this]
theorem fi_some (p:Nat→Bool):∀ (n i:Nat),fi p n=some i↔i < n∧p i=true∧∀ j,j < i→p j=false
 | 0,i=>by rw [fi_zero];constructor;intro h;cases h;intro h;omega
 | n+1,i=>by
   rw [fi_succ];cases hf:fi p n with
   | none =>
     have hn:=(fi_none p n).1 hf;rw [Option.none_or]
     by_cases h:p n=true
     ·rw [if_pos h]
      constructor
      ·intro e;cases e;exact ⟨by omega,h,hn⟩
      ·intro ⟨h1,h2,h3⟩
       rcases Nat.lt_or_ge i n with hi | hi
       ·have:=hn i hi;rw [h2] at this;cases this
       ·rw [show i=n by omega]
     ·rw [if_neg h]
      constructor
      ·intro e;cases e
      ·intro ⟨h1,h2,h3⟩
       rcases Nat.lt_or_ge i n with hi | hi
       ·have:=hn i hi;rw [h2] at this;cases this
       ·rw [show i=n by omega] at h2;exact absurd h2 h
   | some k =>
     have hk:=(fi_some p n k).1 hf;rw [Option.some_or]
     constructor
     ·intro e;cases e;exact ⟨by omega,hk.2.1,hk.2.2⟩
     ·intro ⟨h1,h2,h3⟩
      rcases Nat.lt_trichotomy i k with hi | hi | hi
      ·have:=hk.2.2 i hi;rw [h2] at this;cases this
      ·rw [hi]
      ·have:=h3 k hi;rw [hk.2.1] at this;cases this
theorem la_some (p:Nat→Bool):∀ (n i:Nat),la p n=some i↔i < n∧p i=true∧∀ j,i < j→j < n→p j=false
 | 0,i=>by rw [la];constructor;intro h;cases h;intro h;omega
 | n+1,i=>by
   rw [la]
   by_cases h:p n=true
   ·rw [if_pos h]
    constructor
    ·intro e;cases e;exact ⟨by omega,h,fun j h1 h2=>by omega⟩
    ·intro ⟨h1,h2,h3⟩
     rcases Nat.lt_or_ge i n with hi | hi
     ·have:=h3 n hi (by omega);rw [h] at this;cases this
     ·rw [show i=n by omega]
   ·rw [if_neg h,la_some p n i]
    constructor
    ·intro ⟨h1,h2,h3⟩
     refine ⟨by omega,h2,fun j hj hn=>?_⟩;rcases Nat.lt_or_ge j n with hjn | hjn
     ·exact h3 j hj hjn
     ·rw [show j=n by omega];simpa using h
    ·intro ⟨h1,h2,h3⟩
     rcases Nat.lt_or_ge i n with hi | hi
     ·exact ⟨hi,h2,fun j hj hn=>h3 j hj (by omega)⟩
     ·rw [show i=n by omega] at h2;exact absurd h2 h
theorem la_none (p:Nat→Bool):∀ (n:Nat),la p n=none↔∀ i,i < n→p i=false
 | 0=>by rw [la];exact ⟨fun _ i hi=>by omega,fun _=>rfl⟩
 | n+1=>by
   rw [la]
   by_cases h:p n=true
   ·rw [if_pos h]
    constructor
    ·intro e;cases e
    ·intro hh;have:=hh n (by omega);rw [h] at this;cases this
   ·rw [if_neg h,la_none p n]
    constructor
    ·intro hh i hi
     rcases Nat.lt_or_ge i n with hin | hin
     ·exact hh i hin
     ·rw [show i=n by omega];simpa using h
    ·intro hh i hi;exact hh i (by omega)
def oI:Option Nat→Int
 | none=>-1
 | some i=>(i:Int)
def ev (h:List Ev) (i:Nat):Ev:=h.getD i (0,0,[],[])
theorem ev_get (h:List Ev) (i:Nat) (hi:i < h.length):ev h i=h[i]:=by unfold ev;rw [List.getD_eq_getElem?_getD,List.getElem?_eq_getElem hi];rfl
def isEnd (h:List Ev) (t:Int) (i:Nat):Bool:=decide ((ev h i).2.1=t∧((ev h i).1=4∨(ev h i).1=5))
def endL (h:List Ev) (t:Int) (n:Nat):Option Nat:=fi (isEnd h t) n
def ofTxn (h:List Ev) (t:Int) (i:Nat):Bool:=decide ((ev h i).2.1=t)
def fstL (h:List Ev) (t:Int) (n:Nat):Option Nat:=fi (ofTxn h t) n
def isWr (h:List Ev) (key val:List UInt8) (i:Nat):Bool:=decide ((ev h i).1=3∧(ev h i).2.2.1=key∧(ev h i).2.2.2=val)
def writerL (h:List Ev) (key val:List UInt8):Option Nat:=fi (isWr h key val) h.length
def isWrT (h:List Ev) (t:Int) (key:List UInt8) (i:Nat):Bool:=decide ((ev h i).1=3∧(ev h i).2.1=t∧(ev h i).2.2.1=key)
def lastN (h:List Ev) (t:Int) (key:List UInt8) (n:Nat):Option Nat:=la (isWrT h t key) n
def lastL (h:List Ev) (t:Int) (key:List UInt8) (before:Int):Option Nat:=lastN h t key (min h.length before.toNat)
def sameVal (h:List Ev) (v:List UInt8) (i:Nat):Bool:=decide ((ev h i).1=3∧(ev h i).2.2.2=v)
def formStep (h:List Ev) (i:Nat):Nat :=
 if ¬ mayE (ev h i) then 1
 else if (ev h i).1=1 then (if fstL h (ev h i).2.1 i=none then 0 else 8)
 else if fstL h (ev h i).2.1 i=none then 7
 else if endL h (ev h i).2.1 i≠none then 9
 else if (ev h i).1=3∧fi (sameVal h (ev h i).2.2.2) i≠none then 8
 else if (ev h i).1=2∧(ev h i).2.2.2≠[]∧writerL h (ev h i).2.2.1 (ev h i).2.2.2=none then 7
 else 0
def wrongAt (h:List Ev) (i:Nat):Bool:=decide (formStep h i≠0)
def openAt (h:List Ev) (i:Nat):Bool:=decide (endL h (ev h i).2.1 h.length=none)
def formedL (h:List Ev):Nat × Nat :=
 if 256 < h.length then (0,4) else
 match fi (wrongAt h) h.length with
 | some i=>(i,formStep h i)
 | none=>if fi (openAt h) h.length=none then (h.length,0) else (h.length,9)
def WF (h:List Ev):Prop:=h.length≤256∧(∀ i,i < h.length→formStep h i=0)∧∀ i,i < h.length→endL h (ev h i).2.1 h.length≠none
theorem formed_ok (h:List Ev):(formedL h).2=0↔WF h:=by
 unfold formedL WF
 by_cases h1:256 < h.length
 ·rw [if_pos h1]
  constructor
  ·intro e;cases e
  ·intro e;omega
 ·rw [if_neg h1]
  cases hf:fi (wrongAt h) h.length with
  | some i =>
    have hi:=(fi_some _ _ _).1 hf;have hw:=of_decide_eq_true hi.2.1
    constructor
    ·intro e;exact absurd e hw
    ·intro e;exact absurd (e.2.1 i hi.1) hw
  | none =>
    have hn:=(fi_none _ _).1 hf
    have hz:∀ i,i < h.length→formStep h i=0:=fun i hi=>by
     have:=of_decide_eq_false (hn i hi);omega
    simp only
    by_cases ho:fi (openAt h) h.length=none
    ·rw [if_pos ho]
     have hoo:=(fi_none _ _).1 ho
     constructor
     ·intro _
      exact ⟨by omega,hz,fun i hi=>of_decide_eq_false (hoo i hi)⟩
     ·intro _;rfl
    ·rw [if_neg ho]
     constructor
     ·intro e;cases e
     ·intro e
      exfalso;apply ho;rw [fi_none];intro i hi;exact decide_eq_false (e.2.2 i hi)
theorem formStep_zero (h:List Ev) (i:Nat):formStep h i=0↔mayE (ev h i)∧((ev h i).1=1→fstL h (ev h i).2.1 i=none)∧((ev h i).1≠1→fstL h (ev h i).2.1 i≠none∧endL h (ev h i).2.1 i=none∧((ev h i).1=3→fi (sameVal h (ev h i).2.2.2) i=none)∧((ev h i).1=2→(ev h i).2.2.2≠[]→writerL h (ev h i).2.2.1 (ev h i).2.2.2≠none)):=by
 unfold formStep
 by_cases hm:mayE (ev h i)
 ·rw [if_neg (fun hh=>hh hm)]
  by_cases h1:(ev h i).1=1
  ·rw [if_pos h1]
   by_cases hf:fstL h (ev h i).2.1 i=none
   ·rw [if_pos hf];exact ⟨fun _=>⟨hm,fun _=>hf,fun hh=>absurd h1 hh⟩,fun _=>rfl⟩
   ·rw [if_neg hf];exact ⟨fun e=>(by cases e),fun e=>absurd (e.2.1 h1) hf⟩
  ·rw [if_neg h1]
   by_cases hf:fstL h (ev h i).2.1 i=none
   ·rw [if_pos hf];exact ⟨fun e=>(by cases e),fun e=>absurd hf (e.2.2 h1).1⟩
   ·rw [if_neg hf]
    by_cases he:endL h (ev h i).2.1 i=none
    ·rw [if_neg (fun hh=>hh he)]
     by_cases h3:(ev h i).1=3∧fi (sameVal h (ev h i).2.2.2) i≠none
     ·rw [if_pos h3];exact ⟨fun e=>(by cases e),fun e=>absurd ((e.2.2 h1).2.2.1 h3.1) h3.2⟩
     ·rw [if_neg h3]
      by_cases h2:(ev h i).1=2∧(ev h i).2.2.2≠[]∧writerL h (ev h i).2.2.1 (ev h i).2.2.2=none
      ·rw [if_pos h2];exact ⟨fun e=>(by cases e),fun e=>absurd h2.2.2 ((e.2.2 h1).2.2.2 h2.1 h2.2.1)⟩
      ·rw [if_neg h2]
       refine ⟨fun _=>⟨hm,fun hh=>absurd hh h1,fun _=>⟨hf,he,fun h3'=>?_,fun h2' hv hw=>h2 ⟨h2',hv,hw⟩⟩⟩,fun _=>rfl⟩;exact Classical.byContradiction fun hh=>h3 ⟨h3',hh⟩
    ·rw [if_pos he];exact ⟨fun e=>(by cases e),fun e=>absurd (e.2.2 h1).2.1 he⟩
 ·rw [if_pos hm];exact ⟨fun e=>(by cases e),fun e=>absurd e.1 hm⟩
end Go.Proofs.YthamoeekiglphaaGreatDoor
namespace Go.Proofs.YthamoeekiglphaaGreatDoor
set_option maxRecDepth 100000
set_option linter.unusedVariables false
theorem fstL_none (h:List Ev) (t:Int) (n:Nat):fstL h t n=none↔∀ j,j < n→(ev h j).2.1≠t:=by
 unfold fstL;rw [fi_none]
 constructor
 ·intro hh j hj;exact of_decide_eq_false (hh j hj)
 ·intro hh j hj;exact decide_eq_false (hh j hj)
theorem fstL_some (h:List Ev) (t:Int) (n i:Nat):fstL h t n=some i↔i < n∧(ev h i).2.1=t∧∀ j,j < i→(ev h j).2.1≠t:=by
 unfold fstL;rw [fi_some]
 constructor
 ·intro ⟨a,b,c⟩;exact ⟨a,of_decide_eq_true b,fun j hj=>of_decide_eq_false (c j hj)⟩
 ·intro ⟨a,b,c⟩;exact ⟨a,decide_eq_true b,fun j hj=>decide_eq_false (c j hj)⟩
abbrev endB (x:Ev) (t:Int):Prop:=x.2.1=t∧(x.1=4∨x.1=5)
theorem endL_none (h:List Ev) (t:Int) (n:Nat):endL h t n=none↔∀ j,j < n→¬ endB (ev h j) t:=by
 unfold endL;rw [fi_none]
 constructor
 ·intro hh j hj;exact of_decide_eq_false (hh j hj)
 ·intro hh j hj;exact decide_eq_false (hh j hj)
theorem endL_some (h:List Ev) (t:Int) (n i:Nat):endL h t n=some i↔i < n∧endB (ev h i) t∧∀ j,j < i→¬ endB (ev h j) t:=by
 unfold endL;rw [fi_some]
 constructor
 ·intro ⟨a,b,c⟩;exact ⟨a,of_decide_eq_true b,fun j hj=>of_decide_eq_false (c j hj)⟩
 ·intro ⟨a,b,c⟩;exact ⟨a,decide_eq_true b,fun j hj=>decide_eq_false (c j hj)⟩
theorem writerL_some (h:List Ev) (key val:List UInt8) (i:Nat):writerL h key val=some i↔i < h.length∧((ev h i).1=3∧(ev h i).2.2.1=key∧(ev h i).2.2.2=val)∧∀ j,j < i→¬ ((ev h j).1=3∧(ev h j).2.2.1=key∧(ev h j).2.2.2=val):=by
 unfold writerL;rw [fi_some]
 constructor
 ·intro ⟨a,b,c⟩;exact ⟨a,of_decide_eq_true b,fun j hj=>of_decide_eq_false (c j hj)⟩
 ·intro ⟨a,b,c⟩;exact ⟨a,decide_eq_true b,fun j hj=>decide_eq_false (c j hj)⟩
theorem lastN_some (h:List Ev) (t:Int) (key:List UInt8) (n i:Nat):lastN h t key n=some i↔i < n∧((ev h i).1=3∧(ev h i).2.1=t∧(ev h i).2.2.1=key)∧∀ j,i < j→j < n→¬ ((ev h j).1=3∧(ev h j).2.1=t∧(ev h j).2.2.1=key):=by
 unfold lastN;rw [la_some]
 constructor
 ·intro ⟨a,b,c⟩;exact ⟨a,of_decide_eq_true b,fun j hj hn=>of_decide_eq_false (c j hj hn)⟩
 ·intro ⟨a,b,c⟩;exact ⟨a,decide_eq_true b,fun j hj hn=>decide_eq_false (c j hj hn)⟩
theorem lastN_none (h:List Ev) (t:Int) (key:List UInt8) (n:Nat):lastN h t key n=none↔∀ j,j < n→¬ ((ev h j).1=3∧(ev h j).2.1=t∧(ev h j).2.2.1=key):=by
 unfold lastN;rw [la_none]
 constructor
 ·intro hh j hj;exact of_decide_eq_false (hh j hj)
 ·intro hh j hj;exact decide_eq_false (hh j hj)
theorem sameVal_none (h:List Ev) (v:List UInt8) (n:Nat):fi (sameVal h v) n=none↔∀ j,j < n→¬ ((ev h j).1=3∧(ev h j).2.2.2=v):=by
 rw [fi_none]
 constructor
 ·intro hh j hj;exact of_decide_eq_false (hh j hj)
 ·intro hh j hj;exact decide_eq_false (hh j hj)
def findL (h:List Ev) (t:Int):Option (Int × Nat × Nat × Bool) :=
 match fstL h t h.length with
 | none=>none
 | some f=>match endL h t h.length with
   | none=>some (t,f,h.length,false)
   | some e=>some (t,f,e,decide ((ev h e).1=4))
def verOf (h:List Ev) (key:List UInt8) (i:Nat):Option Nat:=if (ev h i).1=4∧endL h (ev h i).2.1 h.length=some i then lastN h (ev h i).2.1 key i else none
def versL (h:List Ev) (key:List UInt8):List Nat:=(List.range h.length).filterMap (verOf h key)
section
variable {h:List Ev}
theorem wf_may (hw:WF h) {i:Nat} (hi:i < h.length):mayE (ev h i):=((formStep_zero h i).1 (hw.2.1 i hi)).1
theorem wf_first (hw:WF h) {i j:Nat} (hi:i < h.length) (h1:(ev h i).1=1) (hj:j < i):(ev h j).2.1≠(ev h i).2.1:=(fstL_none _ _ _).1 (((formStep_zero h i).1 (hw.2.1 i hi)).2.1 h1) j hj
theorem wf_had (hw:WF h) {i:Nat} (hi:i < h.length) (h1:(ev h i).1≠1):∃ j,j < i∧(ev h j).2.1=(ev h i).2.1:=by
 have:=(((formStep_zero h i).1 (hw.2.1 i hi)).2.2 h1).1;cases hf:fstL h (ev h i).2.1 i with
 | none=>exact absurd hf this
 | some j=>have:=(fstL_some _ _ _ _).1 hf;exact ⟨j,this.1,this.2.1⟩
theorem wf_open (hw:WF h) {i j:Nat} (hi:i < h.length) (hj:j < i):¬ endB (ev h j) (ev h i).2.1:=by
 by_cases h1:(ev h i).1=1
 ·intro he;exact wf_first hw hi h1 hj he.1
 ·exact (endL_none _ _ _).1 (((formStep_zero h i).1 (hw.2.1 i hi)).2.2 h1).2.1 j hj
theorem wf_vals (hw:WF h) {i j:Nat} (hi:i < h.length) (h3:(ev h i).1=3) (hj:j < i) (h3':(ev h j).1=3):(ev h j).2.2.2≠(ev h i).2.2.2:=by
 intro he;exact (sameVal_none _ _ _).1 ((((formStep_zero h i).1 (hw.2.1 i hi)).2.2 (by rw [h3];decide)).2.2.1 h3) j hj ⟨h3',he⟩
theorem wf_life (hw:WF h) {i:Nat} (hi:i < h.length):∃ f e,fstL h (ev h i).2.1 h.length=some f∧endL h (ev h i).2.1 h.length=some e∧f≤i∧i≤e∧e < h.length∧((ev h i).1=1↔i=f)∧(4≤(ev h i).1↔i=e):=by
 cases hf:fstL h (ev h i).2.1 h.length with
 | none=>exact absurd rfl ((fstL_none _ _ _).1 hf i hi)
 | some f =>
   cases he:endL h (ev h i).2.1 h.length with
   | none=>exact absurd he (hw.2.2 i hi)
   | some e =>
     obtain ⟨f1,f2,f3⟩:=(fstL_some _ _ _ _).1 hf;obtain ⟨e1,e2,e3⟩:=(endL_some _ _ _ _).1 he;have hfi:f≤i:=Nat.le_of_not_lt fun hh=>f3 i hh rfl
     have hie:i≤e:=Nat.le_of_not_lt fun hh=>wf_open hw hi hh e2
     refine ⟨f,e,rfl,rfl,hfi,hie,e1,⟨fun h1=>?_,fun h1=>?_⟩,⟨fun h4=>?_,fun h4=>?_⟩⟩
     ·rcases Nat.lt_or_ge f i with hh | hh
      ·exact absurd f2 (wf_first hw hi h1 hh)
      ·omega
     ·apply Classical.byContradiction
      intro hn;obtain ⟨j,hj,hjt⟩:=wf_had hw hi hn;exact f3 j (by omega) hjt
     ·have hm:=wf_may hw hi
      have hb:endB (ev h i) (ev h i).2.1:=⟨rfl,by have:=hm.1;omega⟩;rcases Nat.lt_or_ge i e with hh | hh
      ·exact absurd hb (e3 i hh)
      ·omega
     ·subst h4
      rcases e2.2 with hh | hh<;>rw [hh]<;>decide
end
theorem verOf_some {h:List Ev} {key:List UInt8} {i k:Nat} (hv:verOf h key i=some k):(ev h i).1=4∧endL h (ev h i).2.1 h.length=some i∧k < i∧(ev h k).1=3∧(ev h k).2.1=(ev h i).2.1∧(ev h k).2.2.1=key∧∀ j,k < j→j < i→¬ ((ev h j).1=3∧(ev h j).2.1=(ev h i).2.1∧(ev h j).2.2.1=key):=by
 unfold verOf at hv
 by_cases hc:(ev h i).1=4∧endL h (ev h i).2.1 h.length=some i
 ·rw [if_pos hc] at hv
  obtain ⟨a,b,c⟩:=(lastN_some _ _ _ _ _).1 hv;exact ⟨hc.1,hc.2,a,b.1,b.2.1,b.2.2,c⟩
 ·rw [if_neg hc] at hv;cases hv
def srcL (h:List Ev) (key:List UInt8):List Nat:=(List.range h.length).filter fun i=>(verOf h key i).isSome
theorem filterMap_filter {α β:Type} (f:α→Option β) (d:β):∀ l:List α,l.filterMap f=(l.filter fun i=>(f i).isSome).map fun i=>(f i).getD d
 | []=>rfl
 | x::l=>by
   cases hx:f x with
   | none=>rw [List.filterMap_cons_none hx,List.filter_cons_of_neg (by simp [hx]),filterMap_filter f d l]
   | some y=>rw [List.filterMap_cons_some hx,List.filter_cons_of_pos (by simp [hx]),List.map_cons,hx,filterMap_filter f d l];rfl
theorem vers_src (h:List Ev) (key:List UInt8):versL h key=(srcL h key).map fun i=>(verOf h key i).getD 0:=filterMap_filter _ _ _
theorem src_len (h:List Ev) (key:List UInt8):(srcL h key).length=(versL h key).length:=by rw [vers_src,List.length_map]
theorem src_sorted (h:List Ev) (key:List UInt8):(srcL h key).Pairwise (·< ·):=List.Pairwise.filter _ List.pairwise_lt_range
theorem src_at (h:List Ev) (key:List UInt8) (j:Nat) (hj:j < (versL h key).length):(srcL h key)[j]'(by rw [src_len];exact hj) < h.length∧verOf h key ((srcL h key)[j]'(by rw [src_len];exact hj))=some (versL h key)[j]:=by
 have hm:=List.getElem_mem (l:=srcL h key) (by rw [src_len];exact hj:j < (srcL h key).length);unfold srcL at hm;rw [List.mem_filter,List.mem_range] at hm;refine ⟨hm.1,?_⟩;have e:(versL h key)[j]=(verOf h key ((srcL h key)[j]'(by rw [src_len];exact hj))).getD 0:=by simp only [vers_src,List.getElem_map]
 rw [e];obtain ⟨y,hy⟩:=Option.isSome_iff_exists.1 hm.2;have hy':verOf h key ((srcL h key)[j]'(by rw [src_len];exact hj))=some y:=hy;rw [hy'];rfl
end Go.Proofs.YthamoeekiglphaaGreatDoor
namespace Go.Proofs.YthamoeekiglphaaGreatDoor
set_option maxRecDepth 100000
set_option linter.unusedVariables false
def commL (h:List Ev) (t:Int):Option Nat :=
 match endL h t h.length with
 | none=>none
 | some e=>if (ev h e).1=4 then some e else none
theorem commL_some (h:List Ev) (t:Int) (e:Nat):commL h t=some e↔endL h t h.length=some e∧(ev h e).1=4:=by
 unfold commL;cases he:endL h t h.length with
 | none=>simp
 | some e' =>
   simp only
   by_cases h4:(ev h e').1=4
   ·rw [if_pos h4]
    constructor
    ·intro hh;cases hh;exact ⟨rfl,h4⟩
    ·intro hh;cases hh.1;rfl
   ·rw [if_neg h4]
    constructor
    ·intro hh;cases hh
    ·intro hh;cases hh.1;exact absurd hh.2 h4
def countsL (h:List Ev) (i:Nat):Prop:=i < h.length∧(ev h i).1=2∧∃ e,commL h (ev h i).2.1=some e∧i < e
def countsB (h:List Ev) (i:Nat):Bool:=decide (i < h.length)&&decide ((ev h i).1=2)&&(match commL h (ev h i).2.1 with | some e=>decide (i < e) | none=>false)
theorem counts_iff (h:List Ev) (i:Nat):countsB h i=true↔countsL h i:=by
 unfold countsB countsL;cases hc:commL h (ev h i).2.1 with
 | none=>simp
 | some e=>simp [and_assoc]
def atL (h:List Ev) (i:Nat):Int × Int × Int :=
 if countsB h i=false then (0,0,0) else
 match lastN h (ev h i).2.1 (ev h i).2.2.1 i with
 | some k=>if (ev h k).2.2.2=(ev h i).2.2.2 then (0,0,0) else (3,(i:Int),(k:Int))
 | none =>
   if (ev h i).2.2.2=[] then (0,0,0) else
   match writerL h (ev h i).2.2.1 (ev h i).2.2.2 with
   | none=>(0,0,0)
   | some w =>
     if (ev h w).2.1=(ev h i).2.1 then (4,(i:Int),(w:Int)) else
     match commL h (ev h w).2.1 with
     | none=>(1,(i:Int),(w:Int))
     | some e=>if lastN h (ev h w).2.1 (ev h i).2.2.1 (min h.length e)=some w then (0,0,0) else (2,(i:Int),oI (lastN h (ev h w).2.1 (ev h i).2.2.1 (min h.length e)))
def outerB (h:List Ev) (i:Nat):Bool:=countsB h i&&decide (lastN h (ev h i).2.1 (ev h i).2.2.1 i=none)
def badsL (h:List Ev):List (Int × Int × Int):=(List.range h.length).filterMap fun i=>if (atL h i).1=0 then none else some (atL h i)
def clean (h:List Ev):Prop:=∀ i,i < h.length→(atL h i).1=0
theorem bads_nil (h:List Ev):badsL h=[]↔clean h:=by
 unfold badsL clean;rw [List.filterMap_eq_nil_iff]
 constructor
 ·intro hh i hi
  have:=hh i (List.mem_range.2 hi)
  by_cases h0:(atL h i).1=0
  ·exact h0
  ·rw [if_neg h0] at this;cases this
 ·intro hh i hi
  rw [if_pos (hh i (List.mem_range.1 hi))]
theorem clean_own {h:List Ev} (hc:clean h) {i k:Nat} (hi:countsL h i) (hl:lastN h (ev h i).2.1 (ev h i).2.2.1 i=some k):(ev h k).2.2.2=(ev h i).2.2.2:=by
 have h0:=hc i hi.1;unfold atL at h0;rw [if_neg (by rw [(counts_iff h i).2 hi];simp),hl] at h0;simp only at h0
 by_cases he:(ev h k).2.2.2=(ev h i).2.2.2
 ·exact he
 ·rw [if_neg he] at h0;revert h0;simp
theorem clean_other {h:List Ev} (hc:clean h) {i w:Nat} (hi:countsL h i) (hl:lastN h (ev h i).2.1 (ev h i).2.2.1 i=none) (hv:(ev h i).2.2.2≠[]) (hw:writerL h (ev h i).2.2.1 (ev h i).2.2.2=some w):(ev h w).2.1≠(ev h i).2.1∧∃ e,commL h (ev h w).2.1=some e∧lastN h (ev h w).2.1 (ev h i).2.2.1 e=some w:=by
 have h0:=hc i hi.1;unfold atL at h0;rw [if_neg (by rw [(counts_iff h i).2 hi];simp),hl] at h0;simp only at h0;rw [if_neg hv,hw] at h0;simp only at h0
 by_cases ht:(ev h w).2.1=(ev h i).2.1
 ·rw [if_pos ht] at h0;revert h0;simp
 ·rw [if_neg ht] at h0
  refine ⟨ht,?_⟩;cases hm:commL h (ev h w).2.1 with
  | none=>rw [hm] at h0;revert h0;simp
  | some e =>
    rw [hm] at h0;simp only at h0;have he:=((endL_some _ _ _ _).1 ((commL_some _ _ _).1 hm).1).1;rw [Nat.min_eq_right (by omega)] at h0
    by_cases hl':lastN h (ev h w).2.1 (ev h i).2.2.1 e=some w
    ·exact ⟨e,rfl,hl'⟩
    ·rw [if_neg hl'] at h0;revert h0;simp
def lessB:List UInt8→List UInt8→Bool
 | [],[]=>false
 | [],_::_=>true
 | _::_,[]=>false
 | a::l,b::m=>if a < b then true else if a=b then lessB l m else false
def insK (k:List UInt8):List (List UInt8)→List (List UInt8)
 | []=>[k]
 | x::l=>if lessB x k=true then x::insK k l else if x=k then x::l else k::x::l
def keysF:List (List UInt8)→List Ev→List (List UInt8)
 | acc,[]=>acc
 | acc,x::l=>keysF (if keyedE x.1 then insK x.2.2.1 acc else acc) l
def keysL (h:List Ev):List (List UInt8):=keysF [] h
theorem insK_mem (k:List UInt8):∀ (l:List (List UInt8)) (y:List UInt8),y∈insK k l↔y=k∨y∈l
 | [],y=>by rw [insK];simp
 | x::l,y=>by
   rw [insK]
   by_cases h1:lessB x k=true
   ·rw [if_pos h1,List.mem_cons,insK_mem k l y,List.mem_cons]
    constructor
    ·rintro (h | h | h)
     ·exact .inr (.inl h)
     ·exact .inl h
     ·exact .inr (.inr h)
    ·rintro (h | h | h)
     ·exact .inr (.inl h)
     ·exact .inl h
     ·exact .inr (.inr h)
   ·rw [if_neg h1]
    by_cases h2:x=k
    ·rw [if_pos h2,List.mem_cons]
     constructor
     ·intro h;exact .inr h
     ·rintro (h | h)
      ·exact .inl (by rw [h,h2])
      ·exact h
    ·rw [if_neg h2,List.mem_cons]
theorem keysF_mem (y:List UInt8):∀ (l:List Ev) (acc:List (List UInt8)),y∈keysF acc l↔y∈acc∨∃ x∈l,keyedE x.1∧x.2.2.1=y
 | [],acc=>by rw [keysF];simp
 | x::l,acc=>by
   rw [keysF,keysF_mem y l]
   by_cases hk:keyedE x.1
   ·rw [if_pos hk,insK_mem]
    constructor
    ·rintro ((h | h) | ⟨z,hz,h1,h2⟩)
     ·exact .inr ⟨x,List.mem_cons_self ..,hk,h.symm⟩
     ·exact .inl h
     ·exact .inr ⟨z,List.mem_cons_of_mem _ hz,h1,h2⟩
    ·rintro (h | ⟨z,hz,h1,h2⟩)
     ·exact .inl (.inr h)
     ·rcases List.mem_cons.1 hz with rfl | hz
      ·exact .inl (.inl h2.symm)
      ·exact .inr ⟨z,hz,h1,h2⟩
   ·rw [if_neg hk]
    constructor
    ·rintro (h | ⟨z,hz,h1,h2⟩)
     ·exact .inl h
     ·exact .inr ⟨z,List.mem_cons_of_mem _ hz,h1,h2⟩
    ·rintro (h | ⟨z,hz,h1,h2⟩)
     ·exact .inl h
     ·rcases List.mem_cons.1 hz with rfl | hz
      ·exact absurd h1 hk
      ·exact .inr ⟨z,hz,h1,h2⟩
theorem keys_mem (h:List Ev) (y:List UInt8):y∈keysL h↔∃ i,i < h.length∧keyedE (ev h i).1∧(ev h i).2.2.1=y:=by
 unfold keysL;rw [keysF_mem]
 constructor
 ·rintro (h' | ⟨x,hx,h1,h2⟩)
  ·cases h'
  ·obtain ⟨i,hi,rfl⟩:=List.getElem_of_mem hx
   exact ⟨i,hi,by rw [ev_get _ _ hi];exact h1,by rw [ev_get _ _ hi];exact h2⟩
 ·rintro ⟨i,hi,h1,h2⟩
  rw [ev_get _ _ hi] at h1 h2;exact .inr ⟨h[i],List.getElem_mem hi,h1,h2⟩
abbrev Ed:=Int × Int × Int × Int × Int
def tx (h:List Ev) (i:Nat):Int:=(ev h i).2.1
def vAt (v:List Nat) (n:Nat):Nat:=v.getD n 0
def wEdge (h:List Ev) (v:List Nat) (n:Nat):Option Ed:=if tx h (vAt v n)=tx h (vAt v (n+1)) then none else some (1,tx h (vAt v n),tx h (vAt v (n+1)),(vAt v n:Int),(vAt v (n+1):Int))
def wEdges (h:List Ev) (v:List Nat):List Ed:=(List.range (v.length - 1)).filterMap (wEdge h v)
def verAt (h:List Ev) (v:List Nat) (i:Nat):Option Nat:=fi (fun n=>decide ((ev h (vAt v n)).2.2.2=(ev h i).2.2.2)) v.length
def rEdge (h:List Ev) (v:List Nat) (i n:Nat):List Ed:=if tx h (vAt v n)=tx h i then [] else [(2,tx h (vAt v n),tx h i,(vAt v n:Int),(i:Int))]
def oEdge (h:List Ev) (v:List Nat) (i n:Nat):List Ed:=if n < v.length∧tx h (vAt v n)≠tx h i then [(3,tx h i,tx h (vAt v n),(i:Int),(vAt v n:Int))] else []
def rdEdges (h:List Ev) (v:List Nat) (i:Nat):List Ed :=
 match verAt h v i with
 | none=>if (ev h i).2.2.2=[] then oEdge h v i 0 else []
 | some n=>rEdge h v i n++oEdge h v i (n+1)
def readOf (h:List Ev) (key:List UInt8) (i:Nat):Bool:=decide ((ev h i).2.2.1=key)&&outerB h i
def rEdges (h:List Ev) (key:List UInt8) (v:List Nat):List Ed:=(List.range h.length).flatMap fun i=>if readOf h key i=true then rdEdges h v i else []
def keyEdges (h:List Ev) (key:List UInt8):List Ed:=wEdges h (versL h key)++rEdges h key (versL h key)
def edgesL (h:List Ev):List Ed:=(keysL h).flatMap (keyEdges h)
def holdsL (h:List Ev) (e:Ed):Prop :=
 ∃ a b i j:Nat,commL h e.2.1=some a∧commL h e.2.2.1=some b∧e.2.1≠e.2.2.1∧e.2.2.2.1=(i:Int)∧e.2.2.2.2=(j:Int)∧i < h.length∧j < h.length∧(ev h i).2.2.1=(ev h j).2.2.1∧tx h i=e.2.1∧tx h j=e.2.2.1 ∧
 ((e.1=1∧(ev h i).1=3∧(ev h j).1=3∧a < b)∨(e.1=2∧(ev h i).1=3∧(ev h j).1=2∧(ev h i).2.2.2=(ev h j).2.2.2) ∨
  (e.1=3∧(ev h i).1=2∧(ev h j).1=3∧((ev h i).2.2.2=[]∨∃ w c,writerL h (ev h i).2.2.1 (ev h i).2.2.2=some w∧tx h w≠e.2.2.1∧commL h (tx h w)=some c∧c < b)))
def wayI (l:List Ed) (a:Int):Nat→Int→Prop
 | 0,b=>b=a
 | n+1,b=>∃ e,e∈l∧wayI l a n e.2.1∧b=e.2.2.1
def Way (l:List Ed) (a b:Int):Prop:=∃ n,wayI l a n b
theorem Way.here {l:List Ed} {a:Int}:Way l a a:=⟨0,rfl⟩
theorem Way.go {l:List Ed} {a:Int} (e:Ed) (he:e∈l) (h:Way l a e.2.1):Way l a e.2.2.1:=by
 obtain ⟨n,hn⟩:=h;exact ⟨n+1,e,he,hn,rfl⟩
theorem Way.elim {l:List Ed} {a:Int} {motive:(b:Int)→Way l a b→Prop} (here:motive a Way.here) (go:∀ (e:Ed) (he:e∈l) (h:Way l a e.2.1),motive e.2.1 h→motive e.2.2.1 (Way.go e he h)) {b:Int} (h:Way l a b):motive b h:=by
 obtain ⟨n,hn⟩:=h
 induction n generalizing b with
 | zero=>have e:b=a:=hn
         subst e;exact here
 | succ n ih =>
   obtain ⟨e,he,h1,rfl⟩:=hn;exact go e he ⟨n,h1⟩ (ih h1)
theorem Way.trans {l:List Ed} {a b c:Int} (h:Way l a b) (k:Way l b c):Way l a c:=by
 induction k using Way.elim with
 | here=>exact h
 | go e he _ ih=>exact .go e he ih
open Go.RowKit
abbrev allMay (h:List Ev):Prop:=∀ x∈h,mayE x
def leavesE (h:List Ev):List (List UInt8) × Nat:=if 256 < h.length then ([],4) else if allMay h then (h.map bytE,0) else ([],1)
theorem leavesE_big (h:List Ev) (hl:256 < h.length):leavesE h=([],4):=by unfold leavesE;rw [if_pos hl]
theorem leavesE_bad (h:List Ev) (hl:¬ 256 < h.length) (k:Nat) (hk:k < h.length) (hm:¬ mayE h[k]):leavesE h=([],1):=by
 unfold leavesE;rw [if_neg hl,if_neg (fun ha=>hm (ha _ (List.getElem_mem hk)))]
theorem leavesE_ok (h:List Ev) (hl:¬ 256 < h.length) (ha:allMay h):leavesE h=(h.map bytE,0):=by
 unfold leavesE;rw [if_neg hl,if_pos ha]
theorem allMay_next (h:List Ev) (k:Nat) (hk:k < h.length) (ha:allMay (h.take k)) (hm:mayE h[k]):allMay (h.take (k+1)):=by
 intro x hx;rw [List.take_succ_eq_append_getElem hk] at hx;rcases List.mem_append.1 hx with hx | hx
 ·exact ha x hx
 ·simp at hx;subst hx;exact hm
def TxRes (w:World) (r:List (List UInt8) × Nat) (e:Ending) (w':World):Prop :=
 ∃ v,e=.returned (.tuple #[v,.int .i64 (r.2:Int)])∧Below w.heap.size w w'∧w'.ownsRow w.heap.size 9 1 v r.1.length (strV r.1)
def EvRes (t:TypeId) (w:World) (r:List Ev × Nat) (e:Ending) (w':World):Prop :=
 ∃ v,e=.returned (.tuple #[v,.int .i64 (r.2:Int)])∧Below w.heap.size w w'∧w'.ownsRow w.heap.size t 4 v r.1.length (recV evV r.1)
end Go.Proofs.YthamoeekiglphaaGreatDoor
namespace Go.Proofs.YthamoeekiglphaaGreatDoor
set_option maxRecDepth 100000
open Go.RowKit
set_option linter.unusedVariables false
section
variable {P:Program} {ops:Array Oper} {md:Region.Mode} {w:World}
def waitB (md:Region.Mode) (ops:Array Oper) (m n:Nat):Bool :=
 (List.range n).all fun i=>decide (i < m) || ((List.range n).any fun j=>decide (i < j)&&Region.waitsFor md ops j i) || ((List.range ops.size).all fun t=>decide (t < n) || Region.waitsFor md ops t i)
theorem behind_waits {m n:Nat} {listed:Array Bool} (hs:waitB md ops m n=true) (inv:HeadInv md ops n listed) :
 ∀ (d i:Nat),n - i=d→m≤i→i < n→listed.getD i true=false→∀ t,n≤t→t ∉ Region.ready md ops listed:=by
 intro d
 induction d using Nat.strongRecOn with
 | _ d ih =>
   intro i hd hmi hi hun t ht hr;obtain ⟨_,ot,hot,hall⟩:=mem_ready.1 hr;have htlt:t < ops.size:=(Array.getElem?_eq_some_iff.1 hot).1;have h1:=List.all_eq_true.1 hs i (List.mem_range.2 hi);rcases (by simpa only [Bool.or_eq_true] using h1:(_∨_)∨_) with (h2 | h2) | h2
   ·have:=of_decide_eq_true h2;omega
   ·obtain ⟨j,hj,hj2⟩:=List.any_eq_true.1 h2
    have hjn:=List.mem_range.1 hj;simp only [Bool.and_eq_true,decide_eq_true_eq] at hj2;obtain ⟨oj,hoj,e,he,hb,hon⟩:=Region.waitsFor_spec hj2.2;cases hl:listed.getD j false with
    | true =>
      have h3:=inv.closed j oj hoj hl e he hb;rw [hon,getD_both hun] at h3;cases h3
    | false=>exact ih (n - j) (by omega) j rfl (by omega) hjn (getD_in (by rw [inv.size];omega) hl) t ht hr
   ·have h3:=List.all_eq_true.1 h2 t (List.mem_range.2 htlt)
    simp only [Bool.or_eq_true,decide_eq_true_eq] at h3;rcases h3 with h3 | h3
    ·omega
    ·obtain ⟨o',ho',e,he,hb,hon⟩:=Region.waitsFor_spec h3
     obtain rfl:o'=ot:=Option.some.inj (ho'.symm.trans hot);have h4:=hall e he hb;rw [hon,getD_both hun] at h4;cases h4
theorem still_first {m n i:Nat} {oi:Oper} {v:Value} {L:Array Bool→Act→Prop} (hi:ops[i]?=some oi) (hsel:∀ (j:Nat) (o:Oper) cs b,ops[j]?=some o→o.op≠.select cs b)
 (hs:waitB md ops m n=true) (hmi:m≤i) (hin:i < n) (hdone:∀ listed a,L listed a→∀ j∈Region.ready md ops listed,n≤j) :
 ∀ (f:Nat) (listed:Array Bool) (a:Act),HeadInv md ops n listed →
   (∀ j oj,ops[j]?=some oj→j≠i→listed.getD j true=false→(∀ e∈oj.after,Region.binds md e=true→e.on≠i)→oi.apart ops oj=true) →
   i∈Region.ready md ops listed→YieldsAt P ops w oi v a →
   wpAnyL P md ops w n L f (listed.setIfInBounds i true) (a.put oi.dst v)→wpAnyL P md ops w n L (f+1) listed a:=by
 intro f
 induction f with
 | zero =>
   intro listed a inv _ hr hy H;have hun:=(mem_ready.1 hr).1;refine ⟨fun h=>(by rw [h] at hr;cases hr),fun j hj=>?_⟩;have hjn:j < n:=Nat.lt_of_not_le fun h=>behind_waits hs inv _ i rfl hmi hin hun j h hj
   refine ⟨hjn,?_⟩
   by_cases hji:j=i
   ·subst hji;exact hy.stOp hi H
   ·have:=hdone _ _ H j (ready_mono hj hji)
    omega
 | succ f ih =>
   intro listed a inv hfree hr hy H;have hun:=(mem_ready.1 hr).1;refine ⟨fun h=>(by rw [h] at hr;cases hr),fun j hj=>?_⟩;have hjn:j < n:=Nat.lt_of_not_le fun h=>behind_waits hs inv _ i rfl hmi hin hun j h hj
   refine ⟨hjn,?_⟩
   by_cases hji:j=i
   ·subst hji;exact hy.stOp hi H
   ·have h1:=(H.2 j (ready_mono hj hji)).2
    obtain ⟨hjun,oj,hoj,hall⟩:=mem_ready.1 hj
    have hnot:∀ e∈oj.after,Region.binds md e=true→e.on≠i:=fun e he hb heq=>by
     have h1:=hall e he hb;rw [heq,getD_both hun] at h1;cases h1
    have h2:=stOp_put hoj (hfree j oj hoj hji hjun hnot) (fun cs b=>hsel i oi cs b hi) (fun cs b=>hsel j oj cs b hoj) hy h1;refine stOp_mono (fun a' h3=>ih (listed.setIfInBounds j true) a' (inv.set hj hjn) (fun k ok hk hki hku hno=>?_) (ready_mono hr (Ne.symm hji)) h3.1 ?_) h2
    ·refine hfree k ok hk hki ?_ hno
     by_cases hjk:j=k
     ·subst hjk;exact hjun
     ·rw [getD_set_ne true hjk] at hku;exact hku
    ·rw [Array.setIfInBounds_comm _ _ hji]
     exact h3.2
def lexH (md:Region.Mode) (ops:Array Oper):Nat→Nat→Array Bool→Bool
 | 0,k,listed=>(Region.ready md ops listed).all fun j=>decide (k≤j)
 | f+1,k,listed=>(Region.ready md ops listed).contains k&&Region.free md ops listed k&&lexH md ops f (k+1) (listed.setIfInBounds k true)
def setN:Nat→Nat→Array Bool→Array Bool
 | 0,_,listed=>listed
 | f+1,k,listed=>setN f (k+1) (listed.setIfInBounds k true)
theorem still_lex {m n:Nat} {Lq:Act→Prop} (hsel:Region.noSelect ops=true) (hs:waitB md ops m n=true) (E:Array Bool) (hE:∀ j∈Region.ready md ops E,n≤j) :
 ∀ (l:List Oper) (k:Nat) (listed:Array Bool) (a:Act),m≤k→(∀ j,j < l.length→l[j]?=ops[k+j]?)→k+l.length=n→HeadInv md ops n listed →
 lexH md ops l.length k listed=true→setN l.length k listed=E→wpStill P ops w Lq l a →
 wpAnyL P md ops w n (fun listed' a'=>listed'=E∧Lq a') l.length listed a
 | [],k,listed,a,_,_,hk,_,hB,he,h=>⟨he,h⟩
 | o::l,k,listed,a,hmk,hl,hk,inv,hB,he,h=>by
   have h0:ops[k]?=some o:=by simpa using (hl 0 (by simp)).symm
   simp only [List.length_cons,lexH,Bool.and_eq_true] at hB;obtain ⟨⟨hr,hf⟩,hB'⟩:=hB;have hkn:k < n:=by simp only [List.length_cons] at hk;omega
   have hr':k∈Region.ready md ops listed:=by simpa using hr
   have hst:stOp P ops w k (wpStill P ops w Lq l) a:=by unfold stOp;simp only [h0];exact h
   obtain ⟨v,hy,hK⟩:=yieldsAt_of_stOp h0 hst
   exact still_first h0 (Region.noSelect_spec hsel) hs hmk hkn (fun listed' a' hL=>by rw [hL.1];exact hE) l.length listed a inv (Region.free_spec h0 hf) hr' hy
    (still_lex hsel hs E hE l (k+1) _ _ (by omega) (fun j hj=>by have:=hl (j+1) (by simp;omega);simpa [Nat.add_assoc,Nat.add_comm 1 j] using this) (by simp only [List.length_cons] at hk;omega) (inv.set hr' hkn) hB' he hK)
def invB (md:Region.Mode) (ops:Array Oper) (n:Nat) (listed:Array Bool):Bool :=
 decide (listed.size=ops.size)&&((List.range ops.size).all fun j=>(!listed.getD j false) || (match ops[j]? with | some oj=>oj.after.all fun e=>(!Region.binds md e) || listed.getD e.on false | none=>true))&&((List.range ops.size).all fun t=>decide (t < n) || !listed.getD t true)
theorem invB_spec {n:Nat} {listed:Array Bool} (h:invB md ops n listed=true):HeadInv md ops n listed:=by
 simp only [invB,Bool.and_eq_true,decide_eq_true_eq] at h;obtain ⟨⟨h1,h2⟩,h3⟩:=h;refine ⟨h1,fun j oj hj hl e he hb=>?_,fun t ht ht'=>?_⟩
 ·have hjl:j < ops.size:=(Array.getElem?_eq_some_iff.1 hj).1
  have h4:=List.all_eq_true.1 h2 j (List.mem_range.2 hjl);rw [hl,hj] at h4;simp only [Bool.not_true,Bool.false_or] at h4;have h5:=Array.all_eq_true'.1 h4 e he;rw [hb] at h5;simpa using h5
 ·have h4:=List.all_eq_true.1 h3 t (List.mem_range.2 ht')
  simp only [Bool.or_eq_true,decide_eq_true_eq,Bool.not_eq_true'] at h4;rcases h4 with h4 | h4
  ·omega
  ·exact h4
def headB (md:Region.Mode) (ops:Array Oper) (m n:Nat) (listed:Array Bool):Bool :=
 Region.noSelect ops&&decide (m≤n)&&decide (n < ops.size)&&waitB md ops m n&&lexH md ops (n - m) m listed&&invB md ops n listed&&(Region.ready md ops (setN (n - m) m listed)).all fun j=>decide (n≤j)
theorem any_head {Q:Exit→Act→World→Prop} {a:Act} {w:World} {l:List Oper} {listed:Array Bool} (m n g:Nat) (hB:headB .any l.toArray m n listed=true)
 (h:wpStill P l.toArray w (fun a'=>wpAny P .any l.toArray Q g (setN (n - m) m listed) a' w) ((l.drop m).take (n - m)) a):wpAny P .any l.toArray Q (n - m+g) listed a w:=by
 simp only [headB,Bool.and_eq_true,decide_eq_true_eq] at hB;obtain ⟨⟨⟨⟨⟨⟨hsel,hmn⟩,hn⟩,hs⟩,hlex⟩,hinv⟩,hE⟩:=hB;have hn':n < l.length:=by simpa using hn
 have htl:((l.drop m).take (n - m)).length=n - m:=by simp;omega
 have H:=still_lex (md:=.any) hsel hs (setN (n - m) m listed) (fun j hj=>by simpa using List.all_eq_true.1 hE j hj) ((l.drop m).take (n - m)) m _ a (Nat.le_refl _) (fun j hj=>by
  have hj':j < n - m:=by rw [htl] at hj;exact hj
  simp [hj',List.getElem?_drop]) (by omega) (invB_spec hinv) (by rw [htl];exact hlex) (by rw [htl]) h
 have:=wpAny_of_head (Q':=Q) (g:=g) (fun listed a' hL=>by rw [hL.1];exact hL.2) _ _ _ H;rw [htl] at this;exact this
def seqI (md:Region.Mode) (ops:Array Oper):List Nat→Array Bool→Bool
 | [],listed=>(Region.ready md ops listed).isEmpty
 | i::is,listed=>decide (Region.ready md ops listed=[i])&&seqI md ops is (listed.setIfInBounds i true)
theorem any_seqI {Q:Exit→Act→World→Prop}:∀ (is:List Nat) (l:List Oper) (listed:Array Bool) (a:Act) (w:World),l.map some=is.map (fun i=>ops[i]?)→seqI md ops is listed=true→wpList P ops Q l a w→wpAny P md ops Q is.length listed a w
 | [],l,listed,a,w,hl,hB,h=>by
   obtain rfl:l=[]:=by cases l<;>simp_all
   exact ⟨by simpa [seqI] using hB,h⟩
 | i::is,l,listed,a,w,hl,hB,h=>by
   match l,hl,h with
   | o::l,hl,h =>
     simp only [List.map_cons,List.cons.injEq] at hl;simp only [seqI,Bool.and_eq_true,decide_eq_true_eq] at hB;refine ⟨fun h1=>(by rw [hB.1] at h1;cases h1),fun j hj=>?_⟩;rw [hB.1] at hj;obtain rfl:j=i:=by simpa using hj
     have hw:wpOp P ops Q j (wpList P ops Q l) a w:=by unfold wpOp;rw [← hl.1];exact h
     exact wpOp_mono (fun a' w' h'=>any_seqI is l _ a' w' hl.2 hB.2 h') hw
end
end Go.Proofs.YthamoeekiglphaaGreatDoor
namespace Go.Proofs.YthamoeekiglphaaGreatDoor
set_option maxRecDepth 100000
open Go.RowKit
set_option linter.unusedVariables false
def SBox (w:World) (g:Nat) (t:TypeId) (cs:Array Value):Prop:=w.heap[g]?=some (.cells cs t (0,0))
theorem SBox.lt {w:World} {g:Nat} {t:TypeId} {cs:Array Value} (h:SBox w g t cs):g < w.heap.size:=(Array.getElem?_eq_some_iff.1 h).1
theorem SBox.cell {w:World} {g:Nat} {t:TypeId} {cs:Array Value} (h:SBox w g t cs) (j:Nat) (u:Value) (hu:cs[j]?=some u):w.cell? ⟨g,j,none⟩=some u:=by
 unfold SBox at h;simp [World.cell?,h,hu]
theorem SBox.frozen {w:World} {g:Nat} {t:TypeId} {cs:Array Value} (h:SBox w g t cs) (j:Nat):w.frozen? ⟨g,j,none⟩=false:=by
 unfold SBox at h;simp [World.frozen?,h]
theorem SBox.set {w:World} {g:Nat} {t:TypeId} {cs:Array Value} (h:SBox w g t cs) (j:Nat) (v:Value):SBox (w.setCell ⟨g,j,none⟩ v) g t (cs.setIfInBounds j v):=by
 unfold SBox at h ⊢;simp [World.setCell,Array.getElem?_modify,h]
theorem SBox.other {w:World} {g:Nat} {t:TypeId} {cs:Array Value} (h:SBox w g t cs) (k j:Nat) (v:Value) (hne:k≠g):SBox (w.setCell ⟨k,j,none⟩ v) g t cs:=by
 unfold SBox at h ⊢;simp [World.setCell,Array.getElem?_modify,h,hne]
theorem SBox.below {w w':World} {g:Nat} {t:TypeId} {cs:Array Value} (h:SBox w g t cs) (b:Below w.heap.size w w'):SBox w' g t cs:=(b.block g h.lt).trans h
theorem SBox.alloc {w:World} {g:Nat} {t:TypeId} {cs:Array Value} (h:SBox w g t cs) (o:Obj):SBox (w.alloc o) g t cs:=h.below ((Below.refl _ w).alloc (Nat.le_refl _) o)
theorem SBox.new (w:World) (t:TypeId) (cs:Array Value):SBox (w.alloc (.cells cs t)) w.heap.size t cs:=by
 show (w.heap.push (.cells cs t))[w.heap.size]?=_;simp
theorem SBox.put4 {w:World} {g:Nat} {t:TypeId} {p q r s:Value} (h:SBox w g t #[p,q,r,s]) (a b c d:Value):SBox ((((w.setCell ⟨g,0,none⟩ a).setCell ⟨g,1,none⟩ b).setCell ⟨g,2,none⟩ c).setCell ⟨g,3,none⟩ d) g t #[a,b,c,d] :=
 (((h.set 0 a).set 1 b).set 2 c).set 3 d
theorem bel_put4 {B:Nat} {a w:World} (h:Below B a w) {g:Nat} (hg:B≤g) (p q r s:Value):Below B a ((((w.setCell ⟨g,0,none⟩ p).setCell ⟨g,1,none⟩ q).setCell ⟨g,2,none⟩ r).setCell ⟨g,3,none⟩ s) :=
 (((h.setCell (p:=⟨g,0,none⟩) hg p).setCell (p:=⟨g,1,none⟩) hg q).setCell (p:=⟨g,2,none⟩) hg r).setCell (p:=⟨g,3,none⟩) hg s
theorem cell_bel {W W':World} (b:Below W.heap.size W W') {a:Addr} {v:Value} (h:W.cell? a=some v):W'.cell? a=some v:=by
 have hlt:a.block < W.heap.size:=by
  rcases Nat.lt_or_ge a.block W.heap.size with h' | h'
  ·exact h'
  ·simp [World.cell?,Array.getElem?_eq_none h'] at h
 rw [b.cell hlt];exact h
abbrev evW (x:Ev):Value:=.agg #[.int .i64 x.1,.int .i64 x.2.1,.string ⟨x.2.2.1.toArray⟩,.string ⟨x.2.2.2.toArray⟩]
theorem ev_info7:(Tryz.prog.info? 53).map (fun i=>(i.zero,i.size,i.bytes))=some (some (.agg #[.int .i64 0,.int .i64 0,.string ByteArray.empty,.string ByteArray.empty]),4,48):=by kernel_rfl
theorem size_ev7:(Tryz.prog.info? 53).map (·.size)=some 4:=by kernel_rfl
theorem ne_nil7 (l:List UInt8) (h:l≠[]):l.isEmpty=false:=by cases l with
 | nil=>exact absurd rfl h
 | cons _ _=>rfl
theorem owns_keep7 {W:World} {B e k n g j:Nat} {v:Value} {xs:List Value} (h:W.ownsRow B e k v n xs) (u:Value) (hne:some g≠v.ownBlock):(W.setCell ⟨g,j,none⟩ u).ownsRow B e k v n xs:=h.kept (Lib.grownBy_setCell W g j u) (.inr (fun e=>hne e.symm))
theorem cell_new7 {W:World} {c:Array Value} {t:TypeId} {b j:Nat} {u:Value} (hb:b=W.heap.size) (h:c[j]?=some u):(W.alloc (.cells c t)).cell? ⟨b,j,none⟩=some u:=by
 subst hb;rw [World.cell?_alloc_new];exact h
theorem IsEvs.reads {w:World} {v:Value} {h:List Ev} (hT:IsEvs w v h):∃ a cap,v=.slice a h.length cap∧h.length≤cap∧cap≤9223372036854775807∧h.length≤140737488351232 ∧
 Hid (0 < h.length→∃ b off,a=some ⟨b,off,none⟩∧Hid (∀ j,j < h.length→∀ V,Below w.heap.size w V→V.cell? ⟨b,off+j*4,none⟩=some (.int .i64 (ev h j).1)∧V.cell? ⟨b,off+j*4+1,none⟩=some (.int .i64 (ev h j).2.1)∧V.cell? ⟨b,off+j*4+2,none⟩=some (.string ⟨(ev h j).2.2.1.toArray⟩)∧V.cell? ⟨b,off+j*4+3,none⟩=some (.string ⟨(ev h j).2.2.2.toArray⟩))):=by
 obtain ⟨a,cap,rfl,h1,h2,h3,HC⟩:=hT.some_at;refine ⟨a,cap,rfl,h1,h2,h3,?_⟩;intro h0;obtain ⟨b,off,rfl,hlt,_⟩:=HC.out 0 h0;refine ⟨b,off,rfl,?_⟩;intro j hj V hV;obtain ⟨b',off',hbo,_,hc⟩:=HC.out j hj;obtain ⟨rfl,rfl⟩:b=b'∧off=off':=by simpa using hbo
 obtain ⟨s0,s1,s2,s3⟩:=IsEvs.at hj hc;rw [ev_get h j hj];exact ⟨(hV.cell (p:=⟨b,off+j*4,none⟩) hlt).trans s0,(hV.cell (p:=⟨b,off+j*4+1,none⟩) hlt).trans s1,(hV.cell (p:=⟨b,off+j*4+2,none⟩) hlt).trans s2,(hV.cell (p:=⟨b,off+j*4+3,none⟩) hlt).trans s3⟩
theorem upto_next (p:Nat→Bool) (q:Nat) (h:∀ j,j < q→p j=false) (hq:p q=false):∀ j,j < q+1→p j=false:=fun j hj=>by
 rcases Nat.lt_or_ge j q with h' | h'
 ·exact h j h'
 ·obtain rfl:j=q:=by omega
  exact hq
def edV (x:Ed):List Value:=[.int .i64 x.1,.int .i64 x.2.1,.int .i64 x.2.2.1,.int .i64 x.2.2.2.1,.int .i64 x.2.2.2.2]
theorem edV_len (x:Ed):(edV x).length=5:=rfl
abbrev IsEds (w:World) (v:Value) (L:List Ed):Prop:=IsRec 5 edV w v L
theorem ed_info:(Tryz.prog.info? 32).map (fun i=>(i.zero,i.size,i.bytes))=some (some (.agg #[.int .i64 0,.int .i64 0,.int .i64 0,.int .i64 0,.int .i64 0]),5,40):=by kernel_rfl
def EdRow (t:TypeId) (w:World) (L:List Ed) (e:Ending) (w':World):Prop:=∃ v,e=.returned v∧Below w.heap.size w w'∧w'.ownsRow w.heap.size t 5 v L.length (recV edV L)
theorem comm_none (h:List Ev) (t:Int) (he:endL h t h.length=none):commL h t=none:=by unfold commL;rw [he]
theorem comm_yes (h:List Ev) (t:Int) (e:Nat) (he:endL h t h.length=some e) (h4:(ev h e).1=4):commL h t=some e:=by unfold commL;rw [he];simp only;rw [if_pos h4]
theorem comm_no (h:List Ev) (t:Int) (e:Nat) (he:endL h t h.length=some e) (h4:(ev h e).1≠4):commL h t=none:=by unfold commL;rw [he];simp only;rw [if_neg h4]
def srcAt (h:List Ev) (key:List UInt8) (n:Nat):Nat:=(srcL h key).getD n 0
theorem vAt_get (v:List Nat) (n:Nat) (hn:n < v.length):vAt v n=v[n]:=by unfold vAt;rw [List.getD_eq_getElem?_getD,List.getElem?_eq_getElem hn];rfl
theorem srcAt_get (h:List Ev) (key:List UInt8) (n:Nat) (hn:n < (versL h key).length):srcAt h key n=(srcL h key)[n]'(by rw [src_len];exact hn):=by
 unfold srcAt;rw [List.getD_eq_getElem?_getD,List.getElem?_eq_getElem (by rw [src_len];exact hn)];rfl
theorem ver_facts (h:List Ev) (key:List UInt8) (n:Nat) (hn:n < (versL h key).length):srcAt h key n < h.length∧commL h (tx h (vAt (versL h key) n))=some (srcAt h key n)∧vAt (versL h key) n < srcAt h key n∧(ev h (vAt (versL h key) n)).1=3∧(ev h (vAt (versL h key) n)).2.2.1=key:=by
 rw [vAt_get _ _ hn,srcAt_get _ _ _ hn];obtain ⟨s1,s2⟩:=src_at h key n hn;obtain ⟨a,b,c,d,e,f,_⟩:=verOf_some s2;exact ⟨s1,(commL_some _ _ _).2 ⟨by unfold tx;rw [e];exact b,a⟩,c,d,f⟩
theorem src_lt (h:List Ev) (key:List UInt8) (n m:Nat) (hnm:n < m) (hm:m < (versL h key).length):srcAt h key n < srcAt h key m:=by
 rw [srcAt_get _ _ _ (by omega),srcAt_get _ _ _ hm];exact List.pairwise_iff_getElem.1 (src_sorted h key) n m _ _ hnm
theorem src_mono (h:List Ev) (key:List UInt8) (n m:Nat) (hn:n < (versL h key).length) (hm:m < (versL h key).length) (hlt:srcAt h key n < srcAt h key m):n < m:=by
 rcases Nat.lt_trichotomy n m with hh | hh | hh
 ·exact hh
 ·rw [hh] at hlt;omega
 ·have:=src_lt h key m n hh hn;omega
theorem tx_ne (h:List Ev) (key:List UInt8) (n m:Nat) (hnm:n < m) (hm:m < (versL h key).length):tx h (vAt (versL h key) n)≠tx h (vAt (versL h key) m):=by
 intro he;have h1:=(ver_facts h key n (by omega)).2.1;have h2:=(ver_facts h key m hm).2.1;rw [he,h2] at h1;have:=src_lt h key n m hnm hm;have:=Option.some.inj h1;omega
theorem ver_index (h:List Ev) (key:List UInt8) (t:Int) (e w:Nat) (hc:commL h t=some e) (hl:lastN h t key e=some w):∃ n,n < (versL h key).length∧vAt (versL h key) n=w∧srcAt h key n=e:=by
 obtain ⟨c1,c2⟩:=(commL_some _ _ _).1 hc;obtain ⟨q1,q2,q3⟩:=(endL_some _ _ _ _).1 c1
 have hv:verOf h key e=some w:=by
  unfold verOf;rw [q2.1,if_pos ⟨c2,c1⟩];exact hl
 have hm:e∈srcL h key:=by
  unfold srcL;rw [List.mem_filter];exact ⟨List.mem_range.2 q1,by rw [hv];rfl⟩
 obtain ⟨n,hn,he⟩:=List.getElem_of_mem hm;have hn':n < (versL h key).length:=by rw [← src_len];exact hn
 refine ⟨n,hn',?_,by rw [srcAt_get _ _ _ hn'];exact he⟩;have:=(src_at h key n hn').2;rw [he,hv] at this;rw [vAt_get _ _ hn'];exact (Option.some.inj this).symm
theorem outer_iff (h:List Ev) (i:Nat):outerB h i=true↔countsL h i∧lastN h (ev h i).2.1 (ev h i).2.2.1 i=none:=by
 unfold outerB;rw [Bool.and_eq_true,counts_iff,decide_eq_true_eq]
theorem edge_cases (h:List Ev) (e:Ed) (he:e∈edgesL h):∃ key,(∃ n,n+1 < (versL h key).length∧e=(1,tx h (vAt (versL h key) n),tx h (vAt (versL h key) (n+1)),(vAt (versL h key) n:Int),(vAt (versL h key) (n+1):Int))) ∨
 (∃ i,countsL h i∧lastN h (ev h i).2.1 (ev h i).2.2.1 i=none∧(ev h i).2.2.1=key ∧
  ((∃ n,verAt h (versL h key) i=some n∧tx h (vAt (versL h key) n)≠tx h i∧e=(2,tx h (vAt (versL h key) n),tx h i,(vAt (versL h key) n:Int),(i:Int))) ∨
   (∃ n,((verAt h (versL h key) i=none∧(ev h i).2.2.2=[]∧n=0)∨∃ m,verAt h (versL h key) i=some m∧n=m+1)∧n < (versL h key).length∧tx h (vAt (versL h key) n)≠tx h i∧e=(3,tx h i,tx h (vAt (versL h key) n),(i:Int),(vAt (versL h key) n:Int))))):=by
 unfold edgesL at he;obtain ⟨key,hk,he⟩:=List.mem_flatMap.1 he;refine ⟨key,?_⟩;unfold keyEdges at he;rcases List.mem_append.1 he with he | he
 ·left
  unfold wEdges at he;obtain ⟨n,hn,he⟩:=List.mem_filterMap.1 he;rw [List.mem_range] at hn;unfold wEdge at he
  by_cases ht:tx h (vAt (versL h key) n)=tx h (vAt (versL h key) (n+1))
  ·rw [if_pos ht] at he;cases he
  ·rw [if_neg ht] at he;exact ⟨n,by omega,(Option.some.inj he).symm⟩
 ·right
  unfold rEdges at he;obtain ⟨i,hi,he⟩:=List.mem_flatMap.1 he
  by_cases hr:readOf h key i=true
  ·rw [if_pos hr] at he
   unfold readOf at hr;rw [Bool.and_eq_true,decide_eq_true_eq,outer_iff] at hr;obtain ⟨hkey,hc,hl⟩:=hr;refine ⟨i,hc,hl,hkey,?_⟩
   have hO:∀ n,e∈oEdge h (versL h key) i n→n < (versL h key).length∧tx h (vAt (versL h key) n)≠tx h i∧e=(3,tx h i,tx h (vAt (versL h key) n),(i:Int),(vAt (versL h key) n:Int)):=fun n hn=>by
    unfold oEdge at hn
    by_cases hh:n < (versL h key).length∧tx h (vAt (versL h key) n)≠tx h i
    ·rw [if_pos hh,List.mem_singleton] at hn;exact ⟨hh.1,hh.2,hn⟩
    ·rw [if_neg hh] at hn;cases hn
   unfold rdEdges at he;cases hv:verAt h (versL h key) i with
   | none =>
     rw [hv] at he;simp only at he
     by_cases hev:(ev h i).2.2.2=[]
     ·rw [if_pos hev] at he
      exact .inr ⟨0,.inl ⟨rfl,hev,rfl⟩,hO 0 he⟩
     ·rw [if_neg hev] at he;cases he
   | some n =>
     rw [hv] at he;simp only at he;rcases List.mem_append.1 he with he | he
     ·unfold rEdge at he
      by_cases ht:tx h (vAt (versL h key) n)=tx h i
      ·rw [if_pos ht] at he;cases he
      ·rw [if_neg ht,List.mem_singleton] at he
       exact .inl ⟨n,rfl,ht,he⟩
     ·exact .inr ⟨n+1,.inr ⟨n,rfl,rfl⟩,hO _ he⟩
  ·rw [if_neg hr] at he;cases he
theorem w_edge (h:List Ev) (key:List UInt8) (hk:key∈keysL h) (n:Nat) (hn:n+1 < (versL h key).length):(1,tx h (vAt (versL h key) n),tx h (vAt (versL h key) (n+1)),(vAt (versL h key) n:Int),(vAt (versL h key) (n+1):Int))∈edgesL h:=by
 refine List.mem_flatMap.2 ⟨key,hk,List.mem_append.2 (.inl (List.mem_filterMap.2 ⟨n,List.mem_range.2 (by omega),?_⟩))⟩;unfold wEdge;rw [if_neg (tx_ne h key n (n+1) (by omega) hn)]
theorem ver_key (h:List Ev) (key:List UInt8) (n:Nat) (hn:n < (versL h key).length):key∈keysL h:=by
 obtain ⟨a,b,c,d,e⟩:=ver_facts h key n hn;exact (keys_mem h key).2 ⟨vAt (versL h key) n,by omega,.inr d,e⟩
theorem v_way (h:List Ev) (key:List UInt8) (n:Nat):∀ m,n≤m→m < (versL h key).length→Way (edgesL h) (tx h (vAt (versL h key) n)) (tx h (vAt (versL h key) m))
 | 0,hnm,hm=>by rw [show n=0 by omega];exact .here
 | m+1,hnm,hm=>by
   rcases Nat.lt_or_ge m n with hh | hh
   ·rw [show n=m+1 by omega];exact .here
   ·exact .go _ (w_edge h key (ver_key h key _ hm) m hm) (v_way h key n m hh (by omega))
theorem r_edges (h:List Ev) (i:Nat) (hc:countsL h i) (hl:lastN h (ev h i).2.1 (ev h i).2.2.1 i=none) (e:Ed) (he:e∈rdEdges h (versL h (ev h i).2.2.1) i):e∈edgesL h:=by
 refine List.mem_flatMap.2 ⟨(ev h i).2.2.1,(keys_mem h _).2 ⟨i,hc.1,.inl hc.2.1,rfl⟩,List.mem_append.2 (.inr (List.mem_flatMap.2 ⟨i,List.mem_range.2 hc.1,?_⟩))⟩;rw [if_pos]
 ·exact he
 ·unfold readOf
  rw [Bool.and_eq_true,decide_eq_true_eq,outer_iff];exact ⟨rfl,hc,hl⟩
theorem verAt_some (h:List Ev) (v:List Nat) (i n:Nat):verAt h v i=some n↔n < v.length∧(ev h (vAt v n)).2.2.2=(ev h i).2.2.2∧∀ j,j < n→(ev h (vAt v j)).2.2.2≠(ev h i).2.2.2:=by
 unfold verAt;rw [fi_some]
 constructor
 ·intro ⟨a,b,c⟩;exact ⟨a,of_decide_eq_true b,fun j hj=>of_decide_eq_false (c j hj)⟩
 ·intro ⟨a,b,c⟩;exact ⟨a,decide_eq_true b,fun j hj=>decide_eq_false (c j hj)⟩
theorem verAt_none (h:List Ev) (v:List Nat) (i:Nat):verAt h v i=none↔∀ j,j < v.length→(ev h (vAt v j)).2.2.2≠(ev h i).2.2.2:=by
 unfold verAt;rw [fi_none]
 constructor
 ·intro hh j hj;exact of_decide_eq_false (hh j hj)
 ·intro hh j hj;exact decide_eq_false (hh j hj)
theorem wr_one {h:List Ev} (hw:WF h) {i j:Nat} (hi:i < h.length) (hj:j < h.length) (h3:(ev h i).1=3) (h3':(ev h j).1=3) (hv:(ev h i).2.2.2=(ev h j).2.2.2):i=j:=by
 rcases Nat.lt_trichotomy i j with hh | hh | hh
 ·exact absurd hv (wf_vals hw hj h3' hh h3)
 ·exact hh
 ·exact absurd hv.symm (wf_vals hw hi h3 hh h3')
theorem wr_nonempty {h:List Ev} (hw:WF h) {i:Nat} (hi:i < h.length) (h3:(ev h i).1=3):(ev h i).2.2.2≠[]:=by
 have hm:=(wf_may hw hi).2;rw [if_pos (show keyedE (ev h i).1 from Or.inr h3)] at hm;intro he;rw [he] at hm;have:=hm.2.2.2;rw [h3] at this;simp at this
theorem writer_is {h:List Ev} (hw:WF h) {j:Nat} (hj:j < h.length) (h3:(ev h j).1=3):writerL h (ev h j).2.2.1 (ev h j).2.2.2=some j:=by
 rw [writerL_some];exact ⟨hj,⟨h3,rfl,rfl⟩,fun k hk hh=>wf_vals hw hj h3 hk hh.1 hh.2.2⟩
theorem edges_apart (h:List Ev) (e:Ed) (he:e∈edgesL h):∃ a b i j:Nat,commL h e.2.1=some a∧commL h e.2.2.1=some b∧e.2.1≠e.2.2.1∧e.2.2.2.1=(i:Int)∧e.2.2.2.2=(j:Int)∧i < h.length∧j < h.length∧(ev h i).2.2.1=(ev h j).2.2.1∧tx h i=e.2.1∧tx h j=e.2.2.1:=by
 obtain ⟨key,⟨n,hn,rfl⟩ | ⟨i,hc,hl,hkey,⟨n,hv,ht,rfl⟩ | ⟨n,_,hn,ht,rfl⟩⟩⟩:=edge_cases h e he
 ·obtain ⟨a1,a2,a3,a4,a5⟩:=ver_facts h key n (by omega)
  obtain ⟨b1,b2,b3,b4,b5⟩:=ver_facts h key (n+1) hn;exact ⟨_,_,_,_,a2,b2,tx_ne h key n (n+1) (by omega) hn,rfl,rfl,by omega,by omega,by rw [a5,b5],rfl,rfl⟩
 ·obtain ⟨a1,a2,a3,a4,a5⟩:=ver_facts h key n ((verAt_some _ _ _ _).1 hv).1
  obtain ⟨e',c1,c2⟩:=hc.2.2;exact ⟨_,_,_,_,a2,c1,ht,rfl,rfl,by omega,hc.1,by rw [a5,hkey],rfl,rfl⟩
 ·obtain ⟨a1,a2,a3,a4,a5⟩:=ver_facts h key n hn
  obtain ⟨e',c1,c2⟩:=hc.2.2;exact ⟨_,_,_,_,c1,a2,fun hh=>ht hh.symm,rfl,rfl,hc.1,by omega,by rw [a5,hkey],rfl,rfl⟩
theorem edges_follow {h:List Ev} (hw:WF h) (hcl:clean h) (e:Ed) (he:holdsL h e):Way (edgesL h) e.2.1 e.2.2.1:=by
 obtain ⟨a,b,i,j,ca,cb,hne,hI,hJ,hi,hj,hkey,ti,tj,hcase⟩:=he
 have vers:∀ (t:Int) (c q:Nat),commL h t=some c→q < h.length→(ev h q).1=3→tx h q=t→∃ n,n < (versL h (ev h q).2.2.1).length∧tx h (vAt (versL h (ev h q).2.2.1) n)=t∧srcAt h (ev h q).2.2.1 n=c:=by
  intro t c q hc hq h3 ht;obtain ⟨c1,c2⟩:=(commL_some _ _ _).1 hc;obtain ⟨f',e',g0,g1,g2,g3,g4,g5,g6⟩:=wf_life hw hq;have ht':(ev h q).2.1=t:=ht;rw [ht',c1] at g1;cases g1;have hqe:q≠c:=fun hh=>by rw [hh,c2] at h3;cases h3
  cases hl:lastN h t (ev h q).2.2.1 c with
  | none=>exact absurd ⟨h3,ht,rfl⟩ ((lastN_none _ _ _ _).1 hl q (by omega))
  | some w =>
    obtain ⟨n,n1,n2,n3⟩:=ver_index h (ev h q).2.2.1 t c w hc hl;refine ⟨n,n1,?_,n3⟩;rw [n2];exact ((lastN_some _ _ _ _ _).1 hl).2.1.2.1
 have along:∀ (key:List UInt8) (n m:Nat),n < (versL h key).length→m < (versL h key).length→srcAt h key n < srcAt h key m→Way (edgesL h) (tx h (vAt (versL h key) n)) (tx h (vAt (versL h key) m)):=fun key n m hn hm hlt=>v_way h key n m (by have:=src_mono h key n m hn hm hlt;omega) hm
 rcases hcase with ⟨_,hi3,hj3,hab⟩ | ⟨_,hi3,hj2,hv⟩ | ⟨_,hi2,hj3,hv⟩
 ·obtain ⟨n,n1,n2,n3⟩:=vers e.2.1 a i ca hi hi3 ti
  obtain ⟨m,m1,m2,m3⟩:=vers e.2.2.1 b j cb hj hj3 tj;rw [← hkey] at m1 m2 m3;have:=along _ n m n1 m1 (by omega);rw [n2,m2] at this;exact this
 ·
  obtain ⟨f',e',g0,g1,g2,g3,g4,g5,g6⟩:=wf_life hw hj;have tj':(ev h j).2.1=e.2.2.1:=tj
  have hjb:j < b:=by
   have:=((commL_some _ _ _).1 cb).1;rw [tj',this] at g1;cases g1;have:j≠b:=fun hh=>by have:=((commL_some _ _ _).1 cb).2;rw [← hh,hj2] at this;cases this
   omega
  have hcj:countsL h j:=⟨hj,hj2,b,by rw [tj'];exact cb,hjb⟩
  have hln:lastN h (ev h j).2.1 (ev h j).2.2.1 j=none:=by
   cases hl:lastN h (ev h j).2.1 (ev h j).2.2.1 j with
   | none=>rfl
   | some k =>
     exfalso;have hk:=clean_own hcl hcj hl;obtain ⟨l1,l2,_⟩:=(lastN_some _ _ _ _ _).1 hl;have:k=i:=wr_one hw (by omega) hi l2.1 hi3 (by rw [hk,hv]);apply hne;rw [← ti,← tj,← this];exact l2.2.1
  have hwr:writerL h (ev h j).2.2.1 (ev h j).2.2.2=some i:=by
   have:=writer_is hw hi hi3;rw [hkey,hv] at this;exact this
  have hvne:(ev h j).2.2.2≠[]:=by rw [← hv];exact wr_nonempty hw hi hi3
  obtain ⟨o1,c,o2,o3⟩:=clean_other hcl hcj hln hvne hwr;obtain ⟨n,n1,n2,n3⟩:=ver_index h (ev h j).2.2.1 (ev h i).2.1 c i o2 o3
  have hva:verAt h (versL h (ev h j).2.2.1) j=some n:=by
   rw [verAt_some];refine ⟨n1,by rw [n2,hv],fun q hq hh=>?_⟩;obtain ⟨r1,r2,r3,r4,r5⟩:=ver_facts h (ev h j).2.2.1 q (by omega);have:vAt (versL h (ev h j).2.2.1) q=i:=wr_one hw (by omega) hi r4 hi3 (by rw [hh,hv]);exact tx_ne h (ev h j).2.2.1 q n hq n1 (by rw [this,n2])
  have hed:=r_edges h j hcj hln (2,tx h i,tx h j,(i:Int),(j:Int)) (by
   unfold rdEdges;rw [hva];refine List.mem_append.2 (.inl ?_);unfold rEdge;rw [n2,if_neg (show ¬ tx h i=tx h j from o1)];exact List.mem_singleton.2 rfl)
  have:=Way.go (a:=tx h i) _ hed .here;rw [← ti,← tj];exact this
 ·
  obtain ⟨f',e',g0,g1,g2,g3,g4,g5,g6⟩:=wf_life hw hi;have ti':(ev h i).2.1=e.2.1:=ti
  have hia:i < a:=by
   have:=((commL_some _ _ _).1 ca).1;rw [ti',this] at g1;cases g1;have:i≠a:=fun hh=>by have:=((commL_some _ _ _).1 ca).2;rw [← hh,hi2] at this;cases this
   omega
  have hci:countsL h i:=⟨hi,hi2,a,by rw [ti'];exact ca,hia⟩;obtain ⟨m,m1,m2,m3⟩:=vers e.2.2.1 b j cb hj hj3 tj;rw [← hkey] at m1 m2 m3
  have over:∀ n,n≤m→(∀ x:Ed,x∈oEdge h (versL h (ev h i).2.2.1) i n→x∈rdEdges h (versL h (ev h i).2.2.1) i)→lastN h (ev h i).2.1 (ev h i).2.2.1 i=none→Way (edgesL h) e.2.1 e.2.2.1:=by
   intro n hnm hsub hln
   by_cases ht:tx h (vAt (versL h (ev h i).2.2.1) n)=tx h i
   ·have:=v_way h (ev h i).2.2.1 n m hnm m1
    rw [ht,ti,m2] at this;exact this
   ·have hed:=r_edges h i hci hln (3,tx h i,tx h (vAt (versL h (ev h i).2.2.1) n),(i:Int),(vAt (versL h (ev h i).2.2.1) n:Int)) (hsub _ (by
     unfold oEdge;rw [if_pos ⟨by omega,ht⟩];exact List.mem_singleton.2 rfl))
    have w1:=Way.go (a:=tx h i) _ hed .here;have w2:=v_way h (ev h i).2.2.1 n m hnm m1;rw [m2] at w2;have:=w1.trans w2;rw [ti] at this;exact this
  cases hl:lastN h (ev h i).2.1 (ev h i).2.2.1 i with
  | some k =>
    have hk:=clean_own hcl hci hl;obtain ⟨l1,l2,_⟩:=(lastN_some _ _ _ _ _).1 hl;rcases hv with hv | ⟨w,c,w1,w2,w3,w4⟩
    ·exact absurd (by rw [hk,hv]) (wr_nonempty hw (by omega) l2.1)
    ·obtain ⟨p1,p2,_⟩:=(writerL_some _ _ _ _).1 w1
     have hwk:w=k:=wr_one hw p1 (by omega) p2.1 l2.1 (by rw [p2.2.2,hk]);have htw:tx h w=e.2.1:=by rw [hwk];exact l2.2.1.trans ti
     rw [htw,ca] at w3;cases w3;obtain ⟨n,n1,n2,n3⟩:=vers e.2.1 a k ca (by omega) l2.1 (by rw [← hwk];exact htw);rw [l2.2.2] at n1 n2 n3;have:=along _ n m n1 m1 (by omega);rw [n2,m2] at this;exact this
  | none =>
    by_cases hev:(ev h i).2.2.2=[]
    ·have hva:verAt h (versL h (ev h i).2.2.1) i=none:=by
      rw [verAt_none];intro q hq hh;obtain ⟨r1,r2,r3,r4,r5⟩:=ver_facts h (ev h i).2.2.1 q hq;exact wr_nonempty hw (by omega) r4 (by rw [hh,hev])
     exact over 0 (by omega) (fun x hx=>by unfold rdEdges;rw [hva];simp only;rw [if_pos hev];exact hx) hl
    ·rcases hv with hv | ⟨w,c,w1,w2,w3,w4⟩
     ·exact absurd hv hev
     ·obtain ⟨o1,c',o2,o3⟩:=clean_other hcl hci hl hev w1
      have w3':commL h (ev h w).2.1=some c:=w3;rw [w3'] at o2;cases o2;obtain ⟨p1,p2,_⟩:=(writerL_some _ _ _ _).1 w1;obtain ⟨n,n1,n2,n3⟩:=ver_index h (ev h i).2.2.1 (ev h w).2.1 c w w3' o3
      have hva:verAt h (versL h (ev h i).2.2.1) i=some n:=by
       rw [verAt_some];refine ⟨n1,by rw [n2,p2.2.2],fun q hq hh=>?_⟩;obtain ⟨r1,r2,r3,r4,r5⟩:=ver_facts h (ev h i).2.2.1 q (by omega);have:vAt (versL h (ev h i).2.2.1) q=w:=wr_one hw (by omega) p1 r4 p2.1 (by rw [hh,p2.2.2]);exact tx_ne h (ev h i).2.2.1 q n hq n1 (by rw [this,n2])
      have hnm:n < m:=src_mono h _ n m n1 m1 (by omega);exact over (n+1) (by omega) (fun x hx=>by unfold rdEdges;rw [hva];exact List.mem_append.2 (.inr hx)) hl
end Go.Proofs.YthamoeekiglphaaGreatDoor
