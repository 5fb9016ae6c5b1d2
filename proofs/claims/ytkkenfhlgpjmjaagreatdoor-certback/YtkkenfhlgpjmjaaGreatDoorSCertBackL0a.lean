/-
  A slice of texts among the arguments, opened. A slice of texts among the arguments, or in a struct's field, opened as rows of texts. Certificates among the argu
-/
import Derived.Test.YtkkenfhlgpjmjaaGreatDoorCL0b
import Derived.SizedLaws
import Derived.SliceStrings
import Derived.Laws.StructEq
import Derived.Below
namespace Go.Proofs.YtkkenfhlgpjmjaaGreatDoor
set_option maxRecDepth 100000
open Go.ChangeShapes Go.WideShapes Go.ChangeAt Go.RowKit
theorem weights_strs {H:Type} (ss:List ByteArray) (h:(DataW.weightsAll Tryz.prog 9 (strs (H:=H) ss)).all (·≤ reachBytes)=true):∀ s∈ss,s.size≤140737488351232:=by
 induction ss with
 | nil=>simp
 | cons a r ih =>
   simp only [strs,List.map_cons,DataW.weightsAll,DataW.weights,List.cons_append,List.nil_append,List.all_cons,Bool.and_eq_true,decide_eq_true_eq] at h
   intro s hs
   rcases List.mem_cons.1 hs with rfl | hs
   ·have:=h.1;simp [reachBytes] at this;exact this
   ·exact ih h.2 s hs
set_option linter.unusedVariables false
theorem txt_cells {H:Type} {enc:TypeId × Value→H} {W:World} {m:Nat} {c:Value} {d:DataW H} {p:List MemPlace}
 (hf:DataW.trod enc Tryz.prog W 0 (fun _=>true) true m 59 [c]=some (d,p)) (hw:(DataW.weights Tryz.prog 59 d).all (·≤ reachBytes)=true):∃ ss:List (List UInt8),IsTxt W c ss∧∀ s∈ss,s.length≤140737488351232:=by
 rcases open_strings Tryz.underlying59 Tryz.underlying9 (by kernel_rfl) hf with ⟨hcs,_⟩ | ⟨x,len,cap,ss,hcs,_,hl,hm,hz,hx,hcell,hws⟩
 ·simp at hcs
  subst hcs
  exact ⟨[],IsTxt.nil W,by simp⟩
 ·simp at hcs
  subst hcs
  simp only [if_true] at hz
  have hd:d=.slice (strs (ss.take len)) (strs (ss.drop len)):=congrArg Prod.fst hx
  subst hd
  simp only [DataW.weights,Tryz.underlying59,List.all_cons,Bool.and_eq_true,decide_eq_true_eq,List.all_append] at hw
  obtain ⟨hw1,hw2,hw3⟩:=hw
  have hb:Tryz.prog.bytesOf 9=16:=by kernel_rfl
  rw [hb] at hw1
  simp only [strs,List.length_map,List.length_take,List.length_drop,reachBytes] at hw1
  have hsz:=weights_strs _ hw2
  have hbd:∀ s∈(ss.take len).map (fun s=>s.data.toList),s.length≤140737488351232:=by
   intro s hs
   obtain ⟨y,hy,rfl⟩:=List.mem_map.1 hs
   have:=hsz y hy
   simpa using this
  refine ⟨(ss.take len).map (fun s=>s.data.toList),⟨_,_,_,rfl,by simp;omega,hl,by unfold maxLen at hm;omega,by omega,fun s hs=>by have:=hbd s hs;omega,?_⟩,hbd⟩
  by_cases h0:len=0
  ·exact .inl h0
  ·right
   have hc0:=hcell 0 (by omega)
   obtain ⟨b,off,spot⟩:=x
   have hspot:spot=none:=by simpa [Addr.add] using World.cell?_spot hc0
   subst hspot
   have hlt:b < W.heap.size:=by
    rcases Nat.lt_or_ge b W.heap.size with h' | h'
    ·exact h'
    ·simp [World.cell?,Addr.add,Array.getElem?_eq_none h'] at hc0
   refine ⟨b,off,rfl,hlt,fun i hi=>?_⟩
   have hi':i < len:=by simp at hi;omega
   have:=hcell i (by omega)
   have ea:(⟨b,off,none⟩:Addr).add i=⟨b,off+i,none⟩:=by unfold Addr.add;split<;>simp_all
   rw [ea] at this
   rw [this]
   have hi2:i < ss.length:=by omega
   simp [List.getD,List.getElem?_eq_getElem hi2]
theorem pf_elem {H:Type} {enc:TypeId × Value→H} {W:World} (n:Nat) (cs':List Value) (d':DataW H) (p':List MemPlace) (hl:cs'.length=6) (h:DataW.trod enc Tryz.prog W 0 (fun _=>true) true n 66 cs'=some (d',p')) (hw:(DataW.weights Tryz.prog 66 d').all (·≤ reachBytes)=true) :
 ∃ x:PVt,cs'=pfV x∧∃ P,IsTxt W x.2.2 P:=by
 have hu:=Tryz.underlying66
 obtain ⟨xs,k,_,hx,hcl,hlen,hel⟩:=DataW.trod_struct hu h
 have hlen':xs.length=3:=hlen
 match xs,hlen',cs',hl with
 | [y0,y1,y2],_,[c0,c1,c2,c3,c4,c5],_ =>
   have k3:Tryz.prog.cellsOf 3=1:=by kernel_rfl
   have kE:Tryz.prog.cellsOf 64=4:=by kernel_rfl
   have k5:Tryz.prog.cellsOf 59=1:=by kernel_rfl
   have g0:=hel 0 _ rfl
   have g1:=hel 1 _ rfl
   have g2:=hel 2 _ rfl
   simp [k3,kE,k5] at g0 g1 g2
   have hd:=congrArg Prod.fst hx
   simp at hd
   subst hd
   simp only [DataW.weights,hu,List.map_cons,List.map_nil] at hw
   simp only [DataW.weightsEach,List.append_nil,List.all_append,Bool.and_eq_true] at hw
   obtain ⟨n0,e0,r0,w0⟩:=DataW.trod_int Tryz.underlying3 g0
   obtain ⟨x,hx2,hg⟩:=ev_elem Tryz.underlying64 (by kernel_rfl) (by kernel_rfl) (by kernel_rfl) (by kernel_rfl) (by kernel_rfl) _ [c1,c2,c3,c4] y1.1 y1.2 rfl g1 hw.2.1
   simp at e0
   subst e0
   unfold evV at hx2
   simp only [List.cons.injEq,and_true] at hx2
   obtain ⟨rfl,rfl,rfl,rfl⟩:=hx2
   obtain ⟨P,hP,_⟩:=txt_cells (d:=y2.1) (p:=y2.2) g2 hw.2.2
   exact ⟨(n0,x,c5),rfl,P,hP⟩
theorem pf_list {W:World}:∀ (L':List PVt),(∀ x∈L',∃ P,IsTxt W x.2.2 P)→∃ L:List Pf,PfOf W L' L
 | [],_=>⟨[],PfOf.nil W⟩
 | y::L',h=>by
   obtain ⟨L,h1⟩:=pf_list L' (fun x hx=>h x (List.mem_cons_of_mem _ hx))
   obtain ⟨P,hP⟩:=h y (List.mem_cons_self ..)
   refine ⟨(y.1,y.2.1,P)::L,by simp [h1.1],fun i x s hx hs=>?_⟩
   cases i with
   | zero =>
     simp at hx hs
     subst hx hs
     exact ⟨rfl,rfl,hP⟩
   | succ i=>exact h1.2 i x s (by simpa using hx) (by simpa using hs)
theorem pf_cells {H:Type} {enc:TypeId × Value→H} {W:World} {m:Nat} {c:Value} {d:DataW H} {p:List MemPlace}
 (hf:DataW.trod enc Tryz.prog W 0 (fun _=>true) true m 33 [c]=some (d,p)) (hw:(DataW.weights Tryz.prog 33 d).all (·≤ reachBytes)=true):∃ L:List Pf,IsPfs W c L:=by
 obtain ⟨L',h1,h2,_⟩:=rec_cells (sz:=6) (rec:=pfV) (fun x:PVt=>∃ P,IsTxt W x.2.2 P) 80 Tryz.underlying33 (by kernel_rfl) (by omega) (by kernel_rfl) (by omega) (fun n cs' d' p' hl h hw'=>pf_elem n cs' d' p' hl h hw') hf hw
 obtain ⟨L,g1⟩:=pf_list L' h2
 exact ⟨L,L',h1,g1⟩
theorem ct_elem {H:Type} {enc:TypeId × Value→H} {W:World} (n:Nat) (cs':List Value) (d':DataW H) (p':List MemPlace) (hl:cs'.length=13) (h:DataW.trod enc Tryz.prog W 0 (fun _=>true) true n 35 cs'=some (d',p')) (hw:(DataW.weights Tryz.prog 35 d').all (·≤ reachBytes)=true) :
 ∃ (c:Ct) (vo vr vp:Value),cs'=(ctC c vo vr vp).toList∧CtAt W c vo vr vp:=by
 have hu:=Tryz.underlying35
 obtain ⟨xs,k,_,hx,hcl,hlen,hel⟩:=DataW.trod_struct hu h
 have hlen':xs.length=7:=hlen
 match xs,hlen',cs',hl with
 | [y0,y1,y2,y3,y4,y5,y6],_,[c0,c1,c2,c3,c4,c5,c6,c7,c8,c9,c10,c11,c12],_ =>
   have k3:Tryz.prog.cellsOf 3=1:=by kernel_rfl
   have k9:Tryz.prog.cellsOf 9=1:=by kernel_rfl
   have kV:Tryz.prog.cellsOf 28=7:=by kernel_rfl
   have kP:Tryz.prog.cellsOf 33=1:=by kernel_rfl
   have g0:=hel 0 _ rfl
   have g1:=hel 1 _ rfl
   have g2:=hel 2 _ rfl
   have g3:=hel 3 _ rfl
   have g4:=hel 4 _ rfl
   have g5:=hel 5 _ rfl
   have g6:=hel 6 _ rfl
   simp [k3,k9,kV,kP] at g0 g1 g2 g3 g4 g5 g6
   have hd:=congrArg Prod.fst hx
   simp at hd
   subst hd
   simp only [DataW.weights,hu,List.map_cons,List.map_nil] at hw
   simp only [DataW.weightsEach,List.append_nil,List.all_append,Bool.and_eq_true] at hw
   obtain ⟨s0,e0,r0,w0⟩:=DataW.trod_string Tryz.underlying9 g0
   obtain ⟨n1,e1,r1,w1⟩:=DataW.trod_int Tryz.underlying3 g1
   obtain ⟨s2,e2,r2,w2⟩:=DataW.trod_string Tryz.underlying9 g2
   obtain ⟨s3,e3,r3,w3⟩:=DataW.trod_string Tryz.underlying9 g3
   obtain ⟨n4,e4,r4,w4⟩:=DataW.trod_int Tryz.underlying3 g4
   obtain ⟨x,vo,vr,hx5,ho,hr,_⟩:=vd_elem13 _ _ y5.1 y5.2 rfl g5 hw.2.2.2.2.2.1
   obtain ⟨P,hP⟩:=pf_cells (d:=y6.1) (p:=y6.2) g6 hw.2.2.2.2.2.2
   simp at e0 e1 e2 e3 e4
   subst e0 e1 e2 e3 e4
   simp only [List.cons.injEq,and_true] at hx5
   obtain ⟨rfl,rfl,rfl,rfl,rfl,rfl,rfl⟩:=hx5
   exact ⟨(s0.data.toList,n1,s2.data.toList,s3.data.toList,n4,x,P),c7,c11,c12,rfl,ho,hr,hP⟩
theorem ct_val {H:Type} {enc:TypeId × Value→H} {W:World} {r:Reach} {b0:Nat} {v:Value} {d:DataW H} {p:List MemPlace} (hv:Value.okWide Tryz.prog W r b0 35 v)
 (h:DataW.Trod enc Tryz.prog W 0 (fun _=>true) true 35 v d p) (hw:(DataW.weights Tryz.prog 35 d).all (·≤ reachBytes)=true):∃ (c:Ct) (vo vr vp:Value),v=.agg (ctC c vo vr vp)∧CtAt W c vo vr vp:=by
 obtain ⟨cs,rfl,hsz⟩:=okWide_struct Tryz.underlying35 hv
 obtain ⟨fuel,hf⟩:=h
 have hc:Tryz.prog.cellsOf 35=13:=by kernel_rfl
 obtain ⟨c,vo,vr,vp,hx,h1⟩:=ct_elem fuel cs.toList d p (by rw [Array.length_toList,hsz,hc]) (by simpa [Value.cells] using hf) hw
 refine ⟨c,vo,vr,vp,?_,h1⟩
 have:cs=ctC c vo vr vp:=Array.toList_inj.1 hx
 rw [this]
end Go.Proofs.YtkkenfhlgpjmjaaGreatDoor
namespace Go.Proofs.YtkkenfhlgpjmjaaGreatDoor
set_option maxRecDepth 100000
open Go.RowKit
set_option linter.unusedVariables false
attribute [local go_sem] ba_size
theorem run_bdeq (w:World) (x0 x1 x2 y0 y1 y2:Int):Sem.run Tryz.prog (Op.equalIn 10000 25 (.agg #[.int .i64 x0,.int .i64 x1,.int .i64 x2]) (.agg #[.int .i64 y0,.int .i64 y1,.int .i64 y2])) w=.ok (decide (x0=y0)&&decide (x1=y1)&&decide (x2=y2)) w:=by
 by_cases h0:x0=y0<;>by_cases h1:x1=y1<;>by_cases h2:x2=y2<;>simp [go_sem,h0,h1,h2]
theorem run_bdeql (w:World) (x0 x1 x2 y0 y1 y2:Int):Sem.run Tryz.prog (binOp .eql 25 (.agg #[.int .i64 x0,.int .i64 x1,.int .i64 x2]) (.agg #[.int .i64 y0,.int .i64 y1,.int .i64 y2])) w=.ok (.bool (decide (x0=y0)&&decide (x1=y1)&&decide (x2=y2))) w:=by
 rw [run_eql_struct,run_bdeq]
 rfl
set_option maxHeartbeats 2000000 in
theorem rints_any (v1 v2:Value) (L M:List Int) (w:World) (h1:IsInts w v1 L) (h2:IsInts w v2 M) :
 Calls Tryz.prog 15 #[v1,v2] w fun e w'=>e=.returned (.bool (decide (L=M)))∧Below w.heap.size w w':=by
 obtain ⟨a1,c1,rfl,hq1,hq2,hb1,HC1⟩:=h1.some_at
 obtain ⟨a2,c2,rfl,hq3,hq4,hb2,HC2⟩:=h2.some_at
 clear h1 h2
 by_cases hn:L.length=M.length
 ·obtain ⟨n1,hn1⟩:∃ n1,L.length=n1:=⟨_,rfl⟩
  have hn2:M.length=n1:=by omega
  have HL1:Hid (L.length=n1):=hn1
  have HL2:Hid (M.length=n1):=hn2
  rw [hn1] at hb1 hq1 ⊢
  rw [hn2] at hq3 ⊢
  clear hb2 hn hn1 hn2
  have hbne:((n1:Int) != (n1:Int))=false:=by simp
  go_enter Tryz.func15,Tryz.ntmps15
  go_wp2
  go_loopw [5] (fun i wr=>∃ k:Nat,k≤n1∧i=.int .i64 k∧Hid (L.take k=M.take k)∧Below w.heap.size w wr) (fun i _=>n1 - (RowKit.intOf i).toNat)
  case atStart=>exact ⟨0,Nat.zero_le _,rfl,rfl,Below.refl _ _⟩
  case round =>
   obtain ⟨k,hk,rfl,HT,hbw⟩:=hrel
   by_cases hlt:k < n1
   ·have hk1:k < L.length:=by have:=HL1.out;omega
    have hk2:k < M.length:=by have:=HL2.out;omega
    obtain ⟨x1,o1,rfl,hx1,p1⟩:=HC1.out k hk1
    obtain ⟨x2,o2,rfl,hx2,p2⟩:=HC2.out k hk2
    have qx10:wr.cell? ⟨x1,o1+k,none⟩=some (.int .i64 L[k]):=(hbw.cell (p:=⟨x1,o1+k,none⟩) hx1).trans (by simpa using p1 0 _ rfl)
    have qx20:wr.cell? ⟨x2,o2+k,none⟩=some (.int .i64 M[k]):=(hbw.cell (p:=⟨x2,o2+k,none⟩) hx2).trans (by simpa using p2 0 _ rfl)
    clear p1 p2
    obtain ⟨xx,hxx⟩:∃ x,L[k]=x:=⟨_,rfl⟩
    obtain ⟨yy,hyy⟩:∃ x,M[k]=x:=⟨_,rfl⟩
    have HX:Hid (L[k]=xx):=hxx
    have HY:Hid (M[k]=yy):=hyy
    rw [hxx] at qx10
    rw [hyy] at qx20
    clear hxx hyy
    by_cases he:xx=yy
    ·subst he
     have e0:(xx==xx)=true:=beq_self_eq_true _
     go_wp2
     go_quiet (fail)
     go_wp2
     go_roundw
     case rel=>exact ⟨k+1,by omega,by go_num,(take_next_eq hk1 hk2 HT.out (by rw [HX.out,HY.out]):_=_),below_drewN hbw _⟩
     case measure=>simp [RowKit.intOf];omega
    ·have HF:Hid (decide (L=M)=false):=decide_eq_false (ne_by_at hk1 hk2 (by rw [HX.out,HY.out];exact he))
     have f0:¬ xx=yy:=he
     have b0:(xx != yy)=true:=bne_iff_ne.2 he
     have e0:(xx==yy)=false:=beq_eq_false_iff_ne.2 f0
     clear he f0
     go_wp2
     go_quiet (fail)
     go_wp2
     go_ret
     exact ⟨by rw [HF.out];rfl,below_drewN hbw _⟩
   ·have HF:Hid (decide (L=M)=true):=by
     show decide (L=M)=true
     apply decide_eq_true
     have h:=HT.out
     rwa [List.take_of_length_le (by have:=HL1.out;omega),List.take_of_length_le (by have:=HL2.out;omega)] at h
    go_wp2
    go_ret
    exact ⟨by rw [HF.out];rfl,hbw⟩
 ·have hbne:((L.length:Int) != (M.length:Int))=true:=by simp;omega
  have HF:Hid (decide (L=M)=false):=decide_eq_false (fun h=>hn (by rw [h]))
  clear hn
  go_enter Tryz.func15,Tryz.ntmps15
  go_wp2
  go_ret
  exact ⟨by rw [HF.out];rfl,Below.refl _ _⟩
set_option maxHeartbeats 2000000 in
theorem rsamee_any (v1 v2:Value) (L M:List Ed) (w:World) (h1:IsEds w v1 L) (h2:IsEds w v2 M) :
 Calls Tryz.prog 95 #[v1,v2] w fun e w'=>e=.returned (.bool (decide (L=M)))∧Below w.heap.size w w':=by
 obtain ⟨a1,c1,rfl,hq1,hq2,hb1,HC1⟩:=h1.some_at
 obtain ⟨a2,c2,rfl,hq3,hq4,hb2,HC2⟩:=h2.some_at
 clear h1 h2
 by_cases hn:L.length=M.length
 ·obtain ⟨n1,hn1⟩:∃ n1,L.length=n1:=⟨_,rfl⟩
  have hn2:M.length=n1:=by omega
  have HL1:Hid (L.length=n1):=hn1
  have HL2:Hid (M.length=n1):=hn2
  rw [hn1] at hb1 hq1 ⊢
  rw [hn2] at hq3 ⊢
  clear hb2 hn hn1 hn2
  have hbne:((n1:Int) != (n1:Int))=false:=by simp
  go_enter Tryz.func95,Tryz.ntmps95
  go_wp2
  go_loopw [5] (fun i wr=>∃ k:Nat,k≤n1∧i=.int .i64 k∧Hid (L.take k=M.take k)∧Below w.heap.size w wr) (fun i _=>n1 - (RowKit.intOf i).toNat)
  case atStart=>exact ⟨0,Nat.zero_le _,rfl,rfl,Below.refl _ _⟩
  case round =>
   obtain ⟨k,hk,rfl,HT,hbw⟩:=hrel
   by_cases hlt:k < n1
   ·have hk1:k < L.length:=by have:=HL1.out;omega
    have hk2:k < M.length:=by have:=HL2.out;omega
    obtain ⟨x1,o1,rfl,hx1,p1⟩:=HC1.out k hk1
    obtain ⟨x2,o2,rfl,hx2,p2⟩:=HC2.out k hk2
    have qx10:wr.cell? ⟨x1,o1+k*5,none⟩=some (.int .i64 L[k].1):=(hbw.cell (p:=⟨x1,o1+k*5,none⟩) hx1).trans (p1 0 _ rfl)
    have qx20:wr.cell? ⟨x2,o2+k*5,none⟩=some (.int .i64 M[k].1):=(hbw.cell (p:=⟨x2,o2+k*5,none⟩) hx2).trans (p2 0 _ rfl)
    have qx11:wr.cell? ⟨x1,o1+k*5+1,none⟩=some (.int .i64 L[k].2.1):=(hbw.cell (p:=⟨x1,o1+k*5+1,none⟩) hx1).trans (p1 1 _ rfl)
    have qx21:wr.cell? ⟨x2,o2+k*5+1,none⟩=some (.int .i64 M[k].2.1):=(hbw.cell (p:=⟨x2,o2+k*5+1,none⟩) hx2).trans (p2 1 _ rfl)
    have qx12:wr.cell? ⟨x1,o1+k*5+2,none⟩=some (.int .i64 L[k].2.2.1):=(hbw.cell (p:=⟨x1,o1+k*5+2,none⟩) hx1).trans (p1 2 _ rfl)
    have qx22:wr.cell? ⟨x2,o2+k*5+2,none⟩=some (.int .i64 M[k].2.2.1):=(hbw.cell (p:=⟨x2,o2+k*5+2,none⟩) hx2).trans (p2 2 _ rfl)
    have qx13:wr.cell? ⟨x1,o1+k*5+3,none⟩=some (.int .i64 L[k].2.2.2.1):=(hbw.cell (p:=⟨x1,o1+k*5+3,none⟩) hx1).trans (p1 3 _ rfl)
    have qx23:wr.cell? ⟨x2,o2+k*5+3,none⟩=some (.int .i64 M[k].2.2.2.1):=(hbw.cell (p:=⟨x2,o2+k*5+3,none⟩) hx2).trans (p2 3 _ rfl)
    have qx14:wr.cell? ⟨x1,o1+k*5+4,none⟩=some (.int .i64 L[k].2.2.2.2):=(hbw.cell (p:=⟨x1,o1+k*5+4,none⟩) hx1).trans (p1 4 _ rfl)
    have qx24:wr.cell? ⟨x2,o2+k*5+4,none⟩=some (.int .i64 M[k].2.2.2.2):=(hbw.cell (p:=⟨x2,o2+k*5+4,none⟩) hx2).trans (p2 4 _ rfl)
    clear p1 p2
    obtain ⟨xx,hxx⟩:∃ x,L[k]=x:=⟨_,rfl⟩
    obtain ⟨yy,hyy⟩:∃ x,M[k]=x:=⟨_,rfl⟩
    have HX:Hid (L[k]=xx):=hxx
    have HY:Hid (M[k]=yy):=hyy
    rw [hxx] at qx10 qx11 qx12 qx13 qx14
    rw [hyy] at qx20 qx21 qx22 qx23 qx24
    clear hxx hyy
    by_cases he:xx=yy
    ·subst he
     have e0:(xx.1==xx.1)=true:=beq_self_eq_true _
     have e1:(xx.2.1==xx.2.1)=true:=beq_self_eq_true _
     have e2:(xx.2.2.1==xx.2.2.1)=true:=beq_self_eq_true _
     have e3:(xx.2.2.2.1==xx.2.2.2.1)=true:=beq_self_eq_true _
     have e4:(xx.2.2.2.2==xx.2.2.2.2)=true:=beq_self_eq_true _
     go_wp2
     go_quiet (fail)
     go_wp2
     go_roundw
     case rel=>exact ⟨k+1,by omega,by go_num,(take_next_eq hk1 hk2 HT.out (by rw [HX.out,HY.out]):_=_),below_drewN hbw _⟩
     case measure=>simp [RowKit.intOf];omega
    ·have HF:Hid (decide (L=M)=false):=decide_eq_false (ne_by_at hk1 hk2 (by rw [HX.out,HY.out];exact he))
     by_cases f0:xx.1=yy.1
     ·have e0:(xx.1==yy.1)=true:=by rw [f0];exact beq_self_eq_true _
      by_cases f1:xx.2.1=yy.2.1
      ·have e1:(xx.2.1==yy.2.1)=true:=by rw [f1];exact beq_self_eq_true _
       by_cases f2:xx.2.2.1=yy.2.2.1
       ·have e2:(xx.2.2.1==yy.2.2.1)=true:=by rw [f2];exact beq_self_eq_true _
        by_cases f3:xx.2.2.2.1=yy.2.2.2.1
        ·have e3:(xx.2.2.2.1==yy.2.2.2.1)=true:=by rw [f3];exact beq_self_eq_true _
         have f4:¬ xx.2.2.2.2=yy.2.2.2.2:=fun h=>he (Prod.ext f0 (Prod.ext f1 (Prod.ext f2 (Prod.ext f3 (h)))))
         have e4:(xx.2.2.2.2==yy.2.2.2.2)=false:=beq_eq_false_iff_ne.2 f4
         clear he f0 f1 f2 f3 f4
         go_wp2
         go_quiet (fail)
         go_wp2
         go_ret
         exact ⟨by rw [HF.out];rfl,below_drewN hbw _⟩
        ·have e3:(xx.2.2.2.1==yy.2.2.2.1)=false:=beq_eq_false_iff_ne.2 f3
         clear he f0 f1 f2 f3
         go_wp2
         go_quiet (fail)
         go_wp2
         go_ret
         exact ⟨by rw [HF.out];rfl,below_drewN hbw _⟩
       ·have e2:(xx.2.2.1==yy.2.2.1)=false:=beq_eq_false_iff_ne.2 f2
        clear he f0 f1 f2
        go_wp2
        go_quiet (fail)
        go_wp2
        go_ret
        exact ⟨by rw [HF.out];rfl,below_drewN hbw _⟩
      ·have e1:(xx.2.1==yy.2.1)=false:=beq_eq_false_iff_ne.2 f1
       clear he f0 f1
       go_wp2
       go_quiet (fail)
       go_wp2
       go_ret
       exact ⟨by rw [HF.out];rfl,below_drewN hbw _⟩
     ·have e0:(xx.1==yy.1)=false:=beq_eq_false_iff_ne.2 f0
      clear he f0
      go_wp2
      go_quiet (fail)
      go_wp2
      go_ret
      exact ⟨by rw [HF.out];rfl,below_drewN hbw _⟩
   ·have HF:Hid (decide (L=M)=true):=by
     show decide (L=M)=true
     apply decide_eq_true
     have h:=HT.out
     rwa [List.take_of_length_le (by have:=HL1.out;omega),List.take_of_length_le (by have:=HL2.out;omega)] at h
    go_wp2
    go_ret
    exact ⟨by rw [HF.out];rfl,hbw⟩
 ·have hbne:((L.length:Int) != (M.length:Int))=true:=by simp;omega
  have HF:Hid (decide (L=M)=false):=decide_eq_false (fun h=>hn (by rw [h]))
  clear hn
  go_enter Tryz.func95,Tryz.ntmps95
  go_wp2
  go_ret
  exact ⟨by rw [HF.out];rfl,Below.refl _ _⟩
set_option maxHeartbeats 4000000 in
theorem rsamev_any (a b:Vd) (ao ar bo br:Value) (w:World) (hao:IsInts w ao a.2.2.1) (har:IsEds w ar a.2.2.2.2) (hbo:IsInts w bo b.2.2.1) (hbr:IsEds w br b.2.2.2.2) :
 Calls Tryz.prog 37 #[.agg (vdC a ao ar),.agg (vdC b bo br)] w fun e w'=>e=.returned (.bool (sameV a b))∧Below w.heap.size w w':=by
 obtain ⟨a0,a1,aO,⟨p0,p1,p2⟩,aR⟩:=a
 obtain ⟨b0,b1,bO,⟨q0,q1,q2⟩,bR⟩:=b
 simp only at hao har hbo hbr
 have CI:=fun W (hW:Below w.heap.size w W)=>rints_any ao bo aO bO W (hao.below hW) (hbo.below hW)
 have CE:=fun W (hW:Below w.heap.size w W)=>rsamee_any ar br aR bR W (har.below hW) (hbr.below hW)
 obtain ⟨aoa,aoc,rfl,_⟩:=hao.some_at
 obtain ⟨ara,arc,rfl,_⟩:=har.some_at
 obtain ⟨boa,boc,rfl,_⟩:=hbo.some_at
 obtain ⟨bra,brc,rfl,_⟩:=hbr.some_at
 clear hao har hbo hbr
 have HD:Hid (sameV (a0,a1,aO,(p0,p1,p2),aR) (b0,b1,bO,(q0,q1,q2),bR)=(decide (aO=bO)&&decide (aR=bR)&&decide (a0=b0)&&decide (a1=b1)&&(decide (p0=q0)&&decide (p1=q1)&&decide (p2=q2)))):=rfl
 obtain ⟨aon,han⟩:∃ n,aO.length=n:=⟨_,rfl⟩
 obtain ⟨arn,harn⟩:∃ n,aR.length=n:=⟨_,rfl⟩
 obtain ⟨bon,hbn⟩:∃ n,bO.length=n:=⟨_,rfl⟩
 obtain ⟨brn,hbrn⟩:∃ n,bR.length=n:=⟨_,rfl⟩
 rw [han,hbn] at CI
 rw [harn,hbrn] at CE
 simp only [vdC,han,harn,hbn,hbrn]
 rw [HD.out]
 clear han harn hbn hbrn HD
 have ebd:∀ V:World,Sem.run Tryz.prog (binOp .eql 25 (.agg #[.int .i64 p0,.int .i64 p1,.int .i64 p2]) (.agg #[.int .i64 q0,.int .i64 q1,.int .i64 q2])) V=.ok (.bool (decide (p0=q0)&&decide (p1=q1)&&decide (p2=q2))) V:=fun V=>run_bdeql V _ _ _ _ _ _
 generalize (decide (p0=q0)&&decide (p1=q1)&&decide (p2=q2))=m at ebd ⊢
 generalize decide (aO=bO)=rO at CI ⊢
 generalize decide (aR=bR)=rR at CE ⊢
 obtain ⟨c0,hc0⟩:∃ c,(a0==b0)=c:=⟨_,rfl⟩
 obtain ⟨c1,hc1⟩:∃ c,(a1==b1)=c:=⟨_,rfl⟩
 rw [show decide (a0=b0)=c0 from hc0,show decide (a1=b1)=c1 from hc1]
 have H6:rO=false∨rO=true∧rR=false∨rO=true∧rR=true∧c0=false∨rO=true∧rR=true∧c0=true∧c1=false∨rO=true∧rR=true∧c0=true∧c1=true:=by cases rO<;>cases rR<;>cases c0<;>cases c1<;>simp
 rcases H6 with rfl | ⟨rfl,rfl⟩ | ⟨rfl,rfl,rfl⟩ | ⟨rfl,rfl,rfl,rfl⟩ | ⟨rfl,rfl,rfl,rfl⟩
 all_goals
  have X0:=(SBox.new w 28 #[.int .i64 a0,.bool a1,.slice aoa aon aoc,.int .i64 p0,.int .i64 p1,.int .i64 p2,.slice ara arn arc]).alloc (.cells #[.int .i64 b0,.bool b1,.slice boa bon boc,.int .i64 q0,.int .i64 q1,.int .i64 q2,.slice bra brn brc] 28)
  have Y0:=SBox.new (w.alloc (.cells #[.int .i64 a0,.bool a1,.slice aoa aon aoc,.int .i64 p0,.int .i64 p1,.int .i64 p2,.slice ara arn arc] 28)) 28 #[.int .i64 b0,.bool b1,.slice boa bon boc,.int .i64 q0,.int .i64 q1,.int .i64 q2,.slice bra brn brc]
  rw [World.size_alloc] at Y0
  have B0:Below w.heap.size w ((w.alloc (.cells #[.int .i64 a0,.bool a1,.slice aoa aon aoc,.int .i64 p0,.int .i64 p1,.int .i64 p2,.slice ara arn arc] 28)).alloc (.cells #[.int .i64 b0,.bool b1,.slice boa bon boc,.int .i64 q0,.int .i64 q1,.int .i64 q2,.slice bra brn brc] 28)):=((Below.refl _ w).alloc (Nat.le_refl _) _).alloc (by simp) _
  have x2:=X0.cell 2 _ rfl
  have y2:=Y0.cell 2 _ rfl
  go_enter Tryz.func37,Tryz.ntmps37
  go_wp2_with fail
  refine (CI _ B0).mono ?_
  rintro e1 w1 ⟨rfl,b1⟩
  have B1:=bel_trans B0 b1
  have X1:=X0.below b1
  have Y1:=Y0.below b1
  clear x2 y2
  have x6:=X1.cell 6 _ rfl
  have y6:=Y1.cell 6 _ rfl
  go_wp2_with fail
  refine (CE _ B1).mono ?_
  rintro e2 w2 ⟨rfl,b2⟩
  have B2:=bel_trans B1 b2
  have X2:=X1.below b2
  have Y2:=Y1.below b2
  clear x6 y6
  have u0:=X2.cell 0 _ rfl
  have u1:=X2.cell 1 _ rfl
  have u3:=X2.cell 3 _ rfl
  have u4:=X2.cell 4 _ rfl
  have u5:=X2.cell 5 _ rfl
  have v0:=Y2.cell 0 _ rfl
  have v1:=Y2.cell 1 _ rfl
  have v3:=Y2.cell 3 _ rfl
  have v4:=Y2.cell 4 _ rfl
  have v5:=Y2.cell 5 _ rfl
  go_wp2_with fail
  go_ret
  exact ⟨by simp,B2⟩
attribute [local go_sem] ba_size ba_get ba_extract ba_append wrap_byte wrap_u64_byte take_drop_end
theorem list_ne_of_get {a b:List (List UInt8)} {k:Nat} (ha:k < a.length) (hb:k < b.length) (h:a[k]≠b[k]):a≠b:=by
 rintro rfl;exact h rfl
theorem take_eq_succ {a b:List (List UInt8)} {k:Nat} (ha:k < a.length) (hb:k < b.length) (h:a.take k=b.take k) (h2:a[k]=b[k]):a.take (k+1)=b.take (k+1):=by
 rw [List.take_succ_eq_append_getElem ha,List.take_succ_eq_append_getElem hb,h,h2]
set_option maxHeartbeats 1000000 in
theorem same_txt (v1 v2:Value) (ss tt:List (List UInt8)) (w:World) (h1:IsTxt w v1 ss) (h2:IsTxt w v2 tt) :
 Calls Tryz.prog 38 #[v1,v2] w fun e w'=>e=.returned (.bool (decide (ss=tt)))∧Below w.heap.size w w':=by
 by_cases hn:ss.length=tt.length
 ·by_cases h0:ss.length=0
  ·have e1:ss=[]:=List.length_eq_zero_iff.1 h0
   have e2:tt=[]:=List.length_eq_zero_iff.1 (hn.symm.trans h0)
   subst e1 e2
   obtain ⟨a1,c1,rfl,_,_,_⟩:=h1.len
   obtain ⟨a2,c2,rfl,_,_,_⟩:=h2.len
   clear h1 h2 hn h0
   go_enter Tryz.func38,Tryz.ntmps38
   go_wp2
   go_loop [5] (fun i=>i=.int .i64 0) (fun _=>0)
   case atStart=>rfl
   case round =>
    obtain rfl:=hrel
    go_wp2
    go_ret
    exact ⟨rfl,Below.refl _ _⟩
  ·obtain ⟨x1,o1,c1,rfl,hx1,hq1,hq2,hb1,HC1⟩:=h1.at (by omega)
   obtain ⟨x2,o2,c2,rfl,hx2,hq3,hq4,hb2,HC2⟩:=h2.at (by omega)
   obtain ⟨n1,hn1⟩:∃ n1,ss.length=n1:=⟨_,rfl⟩
   have hn2:tt.length=n1:=by omega
   have HL1:Hid (ss.length=n1):=hn1
   have HL2:Hid (tt.length=n1):=hn2
   rw [hn1] at hb1 hq1 h0 ⊢
   rw [hn2] at hq3 ⊢
   clear h1 h2 hb2 hn hn1 hn2
   have hbne:((n1:Int) != (n1:Int))=false:=by simp
   go_enter Tryz.func38,Tryz.ntmps38
   go_wp2
   go_loopw [5] (fun i wr=>∃ k:Nat,k≤n1∧i=.int .i64 k∧Hid (ss.take k=tt.take k)∧Below w.heap.size w wr) (fun i _=>n1 - (RowKit.intOf i).toNat)
   case atStart=>exact ⟨0,Nat.zero_le _,rfl,rfl,Below.refl _ _⟩
   case round =>
    obtain ⟨k,hk,rfl,HT,hbw⟩:=hrel
    by_cases hlt:k < n1
    ·have hk1:k < ss.length:=by have:=HL1.out;omega
     have hk2:k < tt.length:=by have:=HL2.out;omega
     have hc1:wr.cell? ⟨x1,o1+k,none⟩=some (.string ⟨ss[k].toArray⟩):=(hbw.cell (p:=⟨x1,o1+k,none⟩) hx1).trans (HC1.out k hk1)
     have hc2:wr.cell? ⟨x2,o2+k,none⟩=some (.string ⟨tt[k].toArray⟩):=(hbw.cell (p:=⟨x2,o2+k,none⟩) hx2).trans (HC2.out k hk2)
     by_cases he:ss[k]=tt[k]
     ·have HE:Hid (ss[k]=tt[k]):=he
      have heb:(ss[k]==tt[k])=true:=by simp [he]
      clear he
      go_wp2
      go_quiet (fail)
      go_wp2
      go_roundw
      case rel=>exact ⟨k+1,by omega,by go_num,take_eq_succ hk1 hk2 HT.out HE.out,below_drewN hbw _⟩
      case measure=>simp [RowKit.intOf];omega
     ·have HF:Hid (decide (ss=tt)=false):=by
       show decide (ss=tt)=false
       exact decide_eq_false (list_ne_of_get hk1 hk2 he)
      have heb:(ss[k]==tt[k])=false:=by simp [he]
      clear he
      go_wp2
      go_quiet (fail)
      go_wp2
      go_ret
      refine ⟨?_,below_drewN hbw _⟩
      rw [HF.out]
      rfl
    ·have HF:Hid (decide (ss=tt)=true):=by
      show decide (ss=tt)=true
      apply decide_eq_true
      have h:=HT.out
      rwa [List.take_of_length_le (by have:=HL1.out;omega),List.take_of_length_le (by have:=HL2.out;omega)] at h
     go_wp2
     go_ret
     refine ⟨?_,hbw⟩
     rw [HF.out]
     rfl
 ·have HF:Hid (decide (ss=tt)=false):=by
   show decide (ss=tt)=false
   apply decide_eq_false
   rintro rfl
   exact hn rfl
  obtain ⟨a1,c1,rfl,_,_,_⟩:=h1.len
  obtain ⟨a2,c2,rfl,_,_,_⟩:=h2.len
  have hbne:((ss.length:Int)==(tt.length:Int))=false:=by rw [beq_eq_false_iff_ne];omega
  clear h1 h2
  go_enter Tryz.func38,Tryz.ntmps38
  go_wp2
  go_ret
  refine ⟨?_,Below.refl _ _⟩
  rw [HF.out]
  rfl
end Go.Proofs.YtkkenfhlgpjmjaaGreatDoor
namespace Go.Proofs.YtkkenfhlgpjmjaaGreatDoor
set_option maxRecDepth 100000
open Go.RowKit
set_option linter.unusedVariables false
def farW (w U:World) (d:Decidable (Below w.heap.size w U):=Classical.propDecidable _):World:=@ite World (Below w.heap.size w U) d U w
theorem farW_eq {w U:World} (h:Below w.heap.size w U):farW w U=U:=by unfold farW;rw [if_pos h]
theorem farW_bel (w U:World):Below w.heap.size w (farW w U):=by
 unfold farW
 split
 ·assumption
 ·exact Below.refl _ _
theorem farW_cell (w U:World) (a:Addr) (h:(w.cell? a).isSome=true):(farW w U).cell? a=w.cell? a:=by
 obtain ⟨v,hv⟩:=Option.isSome_iff_exists.1 h
 exact (farW_bel w U).cell (World.block_lt_of_cell? w a hv)
section
variable {P:Program}
theorem region_far {id:Nat} {Q:Exit→Act→World→Prop} {a:Act} {w:World} {l:List Oper} (hm:P.follows .mixedOrders=true) (hB:Region.lexB .any l.toArray=true)
 (h:wpQuiet P l.toArray (fun w'=>∃ U,w'=farW w U) (fun a'=>∀ w',(∃ U,w'=farW w U)→Q .normal a' w') l a):(Code.region id l.toArray true).wp P Q a w :=
 wp_region_quiet (C:=fun w'=>∃ U,w'=farW w U) hm hB ⟨w.drew,(farW_eq (Below.refl _ _).drew).symm⟩ (by simpa using h)
theorem calls_far {f:FuncId} {args:Array Value} {w U:World} {v:Value} (h:Calls P f args (farW w U) fun e w'=>e=.returned v∧Below (farW w U).heap.size (farW w U) w'):Calls P f args (farW w U) fun e w''=>e=.returned v∧∃ U',w''=farW w U' :=
 h.mono fun _ w' ⟨he,hb⟩=>⟨he,w',(farW_eq (bel_trans (farW_bel w U) hb)).symm⟩
end
end Go.Proofs.YtkkenfhlgpjmjaaGreatDoor
