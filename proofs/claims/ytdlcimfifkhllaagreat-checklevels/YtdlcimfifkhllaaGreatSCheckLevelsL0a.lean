/-
  The walk of CheckLevels.
-/
import Derived.Test.YtdlcimfifkhllaaGreatCL0c
import Derived.Deep.RegionHeld3
namespace Go.Proofs.YtdlcimfifkhllaaGreat
set_option maxRecDepth 100000
open Go.RowKit
set_option linter.unusedVariables false
attribute [local go_sem] ba_size
set_option maxHeartbeats 4000000 in
theorem levels13_walk (C:P13C) (w:World) (vh:Value) (h:List Ev) (Th:IsEvs w vh h) (Gh:∀ x∈h,goodE x) (vo:Value) (o:List Int) (To:IsInts w vo o) (Go:∀ x∈o,okN x) (vl:Value) (l:List Ed) (Tl:IsEds w vl l) (Gl:∀ x∈l,goodEd x) :
 Calls Tryz.prog 8 #[vh,vo,vl] w fun e w'=>e=.returned (.bool true)∧Below w.heap.size w w':=by
 have HSh:Hid (∀ W,Below w.heap.size w W→Calls Tryz.prog 10 #[] W fun e w'=>e=.returned (.bool true)∧Below W.heap.size W w'):=fun W h=>shown13_any C W
 have HF:Hid (∀ W,Below w.heap.size w W→Calls Tryz.prog 11 #[vh] W fun e w'=>e=.returned (.bool (decide (fewK h)))∧Below W.heap.size W w'):=fun W hb=>few13_any vh h W (Th.below hb)
 by_cases h1:fewK h
 ·rw [decide_eq_true h1] at HF
  by_cases hl:l.length≤100
  ·by_cases ho:o.length≤100
   ·skip
    have A1:Hid (∀ W,Below w.heap.size w W→Calls Tryz.prog 14 #[vh,.int .i64 1,vo] W fun e w'=>e=.returned (.bool (aheadB h 1 o))∧Below W.heap.size W w'):=fun W hb=>C.ahead h vh vo 1 o W (Th.below hb) Gh h1.few (by unfold okN;omega) Go (To.below hb) (by omega)
    have A2:Hid (∀ W,Below w.heap.size w W→Calls Tryz.prog 14 #[vh,.int .i64 2,vo] W fun e w'=>e=.returned (.bool (aheadB h 2 o))∧Below W.heap.size W w'):=fun W hb=>C.ahead h vh vo 2 o W (Th.below hb) Gh h1.few (by unfold okN;omega) Go (To.below hb) (by omega)
    have R1:Hid (∀ W,Below w.heap.size w W→Calls Tryz.prog 16 #[vh,.int .i64 1,vl] W fun e w'=>e=.returned (.bool (roundB h 1 l))∧Below W.heap.size W w'):=fun W hb=>C.round h vh vl 1 l W (Th.below hb) Gh h1.few (by unfold okN;omega) Gl (Tl.below hb) (by omega)
    have R2:Hid (∀ W,Below w.heap.size w W→Calls Tryz.prog 16 #[vh,.int .i64 2,vl] W fun e w'=>e=.returned (.bool (roundB h 2 l))∧Below W.heap.size W w'):=fun W hb=>C.round h vh vl 2 l W (Th.below hb) Gh h1.few (by unfold okN;omega) Gl (Tl.below hb) (by omega)
    have l1:=ahead_levels h o
    have l2:=round_levels h l
    obtain ⟨a1,ha1⟩:∃ y,aheadB h 1 o=y:=⟨_,rfl⟩
    obtain ⟨a2,ha2⟩:∃ y,aheadB h 2 o=y:=⟨_,rfl⟩
    obtain ⟨r1,hr1⟩:∃ y,roundB h 1 l=y:=⟨_,rfl⟩
    obtain ⟨r2,hr2⟩:∃ y,roundB h 2 l=y:=⟨_,rfl⟩
    rw [ha1] at A1 l1
    rw [ha2] at A2 l1
    rw [hr1] at R1 l2
    rw [hr2] at R2 l2
    clear ha1 ha2 hr1 hr2
    obtain ⟨ao,co,rfl,i_o,j_o,k_o,_⟩:=To.some_at
    obtain ⟨al,cl,rfl,i_l,j_l,k_l,_⟩:=Tl.some_at
    obtain ⟨no,hno⟩:∃ m,o.length=m:=⟨_,rfl⟩
    obtain ⟨nl,hnl⟩:∃ m,l.length=m:=⟨_,rfl⟩
    obtain ⟨ah,ch,rfl,ih,jh,kh,HCh⟩:=Th.reads
    obtain ⟨n,hn⟩:∃ n,h.length=n:=⟨_,rfl⟩
    rw [hnl] at i_l k_l
    rw [hno] at i_o k_o
    simp only [hno,hnl,hn] at HF A1 A2 R1 R2 hl ho ⊢
    have j1:¬ (100:Int) < (nl:Int):=by omega
    have j2:¬ (100:Int) < (no:Int):=by omega
    clear hno hnl hn To Tl Th HCh
    cases a1 with
    | true =>
      obtain rfl:a2=true:=l1 rfl
      cases r2 with
      | true =>
        obtain rfl:r1=true:=l2 rfl
        go_enter Tryz.func8,Tryz.ntmps8
        go_wp2_with fail
        refine (HSh.out _ (Below.refl w.heap.size w)).mono ?_
        rintro e w1 ⟨rfl,b1⟩
        have B1:=bel_trans (Below.refl w.heap.size w) b1
        go_wp2_with fail
        refine (HF.out _ B1).mono ?_
        rintro e w2 ⟨rfl,b2⟩
        have B2:=bel_trans B1 b2
        go_wp2_with fail
        refine (A1.out _ B2).mono ?_
        rintro e w3 ⟨rfl,b3⟩
        have B3:=bel_trans B2 b3
        go_wp2_with fail
        refine (A2.out _ B3).mono ?_
        rintro e w4 ⟨rfl,b4⟩
        have B4:=bel_trans B3 b4
        go_wp2_with fail
        refine (R2.out _ B4).mono ?_
        rintro e w5 ⟨rfl,b5⟩
        have B5:=bel_trans B4 b5
        go_wp2_with fail
        refine (R1.out _ B5).mono ?_
        rintro e w6 ⟨rfl,b6⟩
        have B6:=bel_trans B5 b6
        go_wp2_with fail
        go_ret
        exact ⟨rfl,B6⟩
      | false =>
        go_enter Tryz.func8,Tryz.ntmps8
        go_wp2_with fail
        refine (HSh.out _ (Below.refl w.heap.size w)).mono ?_
        rintro e w1 ⟨rfl,b1⟩
        have B1:=bel_trans (Below.refl w.heap.size w) b1
        go_wp2_with fail
        refine (HF.out _ B1).mono ?_
        rintro e w2 ⟨rfl,b2⟩
        have B2:=bel_trans B1 b2
        go_wp2_with fail
        refine (A1.out _ B2).mono ?_
        rintro e w3 ⟨rfl,b3⟩
        have B3:=bel_trans B2 b3
        go_wp2_with fail
        refine (A2.out _ B3).mono ?_
        rintro e w4 ⟨rfl,b4⟩
        have B4:=bel_trans B3 b4
        go_wp2_with fail
        refine (R2.out _ B4).mono ?_
        rintro e w5 ⟨rfl,b5⟩
        have B5:=bel_trans B4 b5
        go_wp2_with fail
        go_ret
        exact ⟨rfl,B5⟩
    | false =>
      cases r2 with
      | true =>
        obtain rfl:r1=true:=l2 rfl
        go_enter Tryz.func8,Tryz.ntmps8
        go_wp2_with fail
        refine (HSh.out _ (Below.refl w.heap.size w)).mono ?_
        rintro e w1 ⟨rfl,b1⟩
        have B1:=bel_trans (Below.refl w.heap.size w) b1
        go_wp2_with fail
        refine (HF.out _ B1).mono ?_
        rintro e w2 ⟨rfl,b2⟩
        have B2:=bel_trans B1 b2
        go_wp2_with fail
        refine (A1.out _ B2).mono ?_
        rintro e w3 ⟨rfl,b3⟩
        have B3:=bel_trans B2 b3
        go_wp2_with fail
        refine (R2.out _ B3).mono ?_
        rintro e w4 ⟨rfl,b4⟩
        have B4:=bel_trans B3 b4
        go_wp2_with fail
        refine (R1.out _ B4).mono ?_
        rintro e w5 ⟨rfl,b5⟩
        have B5:=bel_trans B4 b5
        go_wp2_with fail
        go_ret
        exact ⟨rfl,B5⟩
      | false =>
        go_enter Tryz.func8,Tryz.ntmps8
        go_wp2_with fail
        refine (HSh.out _ (Below.refl w.heap.size w)).mono ?_
        rintro e w1 ⟨rfl,b1⟩
        have B1:=bel_trans (Below.refl w.heap.size w) b1
        go_wp2_with fail
        refine (HF.out _ B1).mono ?_
        rintro e w2 ⟨rfl,b2⟩
        have B2:=bel_trans B1 b2
        go_wp2_with fail
        refine (A1.out _ B2).mono ?_
        rintro e w3 ⟨rfl,b3⟩
        have B3:=bel_trans B2 b3
        go_wp2_with fail
        refine (R2.out _ B3).mono ?_
        rintro e w4 ⟨rfl,b4⟩
        have B4:=bel_trans B3 b4
        go_wp2_with fail
        go_ret
        exact ⟨rfl,B4⟩
   ·skip
    obtain ⟨ao,co,rfl,i_o,j_o,k_o,_⟩:=To.some_at
    obtain ⟨al,cl,rfl,i_l,j_l,k_l,_⟩:=Tl.some_at
    obtain ⟨no,hno⟩:∃ m,o.length=m:=⟨_,rfl⟩
    obtain ⟨nl,hnl⟩:∃ m,l.length=m:=⟨_,rfl⟩
    obtain ⟨ah,ch,rfl,ih,jh,kh,HCh⟩:=Th.reads
    obtain ⟨n,hn⟩:∃ n,h.length=n:=⟨_,rfl⟩
    rw [hnl] at i_l k_l
    rw [hno] at i_o k_o
    simp only [hno,hnl,hn] at HF hl ho ⊢
    have j1:¬ (100:Int) < (nl:Int):=by omega
    have j2:(100:Int) < (no:Int):=by omega
    clear hno hnl hn To Tl Th HCh
    go_enter Tryz.func8,Tryz.ntmps8
    go_wp2_with fail
    refine (HSh.out _ (Below.refl w.heap.size w)).mono ?_
    rintro e w1 ⟨rfl,b1⟩
    have B1:=bel_trans (Below.refl w.heap.size w) b1
    go_wp2_with fail
    refine (HF.out _ B1).mono ?_
    rintro e w2 ⟨rfl,b2⟩
    have B2:=bel_trans B1 b2
    go_wp2_with fail
    go_ret
    exact ⟨rfl,B2⟩
  ·skip
   obtain ⟨ao,co,rfl,i_o,j_o,k_o,_⟩:=To.some_at
   obtain ⟨al,cl,rfl,i_l,j_l,k_l,_⟩:=Tl.some_at
   obtain ⟨no,hno⟩:∃ m,o.length=m:=⟨_,rfl⟩
   obtain ⟨nl,hnl⟩:∃ m,l.length=m:=⟨_,rfl⟩
   obtain ⟨ah,ch,rfl,ih,jh,kh,HCh⟩:=Th.reads
   obtain ⟨n,hn⟩:∃ n,h.length=n:=⟨_,rfl⟩
   rw [hnl] at i_l k_l
   rw [hno] at i_o k_o
   simp only [hno,hnl,hn] at HF hl ⊢
   have j1:(100:Int) < (nl:Int):=by omega
   clear hno hnl hn To Tl Th HCh
   go_enter Tryz.func8,Tryz.ntmps8
   go_wp2_with fail
   refine (HSh.out _ (Below.refl w.heap.size w)).mono ?_
   rintro e w1 ⟨rfl,b1⟩
   have B1:=bel_trans (Below.refl w.heap.size w) b1
   go_wp2_with fail
   refine (HF.out _ B1).mono ?_
   rintro e w2 ⟨rfl,b2⟩
   have B2:=bel_trans B1 b2
   go_wp2_with fail
   go_ret
   exact ⟨rfl,B2⟩
 ·rw [decide_eq_false h1] at HF
  obtain ⟨ao,co,rfl,i_o,j_o,k_o,_⟩:=To.some_at
  obtain ⟨al,cl,rfl,i_l,j_l,k_l,_⟩:=Tl.some_at
  obtain ⟨no,hno⟩:∃ m,o.length=m:=⟨_,rfl⟩
  obtain ⟨nl,hnl⟩:∃ m,l.length=m:=⟨_,rfl⟩
  obtain ⟨ah,ch,rfl,ih,jh,kh,HCh⟩:=Th.reads
  obtain ⟨n,hn⟩:∃ n,h.length=n:=⟨_,rfl⟩
  rw [hnl] at i_l k_l
  rw [hno] at i_o k_o
  simp only [hno,hnl,hn] at HF ⊢
  clear hno hnl hn To Tl Th HCh
  go_enter Tryz.func8,Tryz.ntmps8
  go_wp2_with fail
  refine (HSh.out _ (Below.refl w.heap.size w)).mono ?_
  rintro e w1 ⟨rfl,b1⟩
  have B1:=bel_trans (Below.refl w.heap.size w) b1
  go_wp2_with fail
  refine (HF.out _ B1).mono ?_
  rintro e w2 ⟨rfl,b2⟩
  have B2:=bel_trans B1 b2
  go_wp2_with fail
  go_ret
  exact ⟨rfl,B2⟩
end Go.Proofs.YtdlcimfifkhllaaGreat
