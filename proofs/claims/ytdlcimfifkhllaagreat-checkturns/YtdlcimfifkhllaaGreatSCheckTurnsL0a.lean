/-
  Rows of steps, cut and joined: of no program. The walk of CheckTurns.
-/
import Derived.Test.YtdlcimfifkhllaaGreatCL0d
import Derived.Deep.RegionHeld3
namespace Go.Proofs.YtdlcimfifkhllaaGreat
set_option maxRecDepth 100000
open Go.RowKit
set_option linter.unusedVariables false
theorem IsRec.cut {α:Type} {sz:Nat} {enc:α→List Value} {w:World} {b off cap:Nat} {L:List α} (h:IsRec sz enc w (.slice (some ⟨b,off,none⟩) L.length cap) L) (i j:Nat) (hij:i≤j) (hj:j≤L.length):IsRec sz enc w (.slice (some ⟨b,off+i*sz,none⟩) (j - i) (cap - i)) ((L.drop i).take (j - i)):=by
 obtain ⟨a',n,c,hv,h1,h2,h3,h4,h6⟩:=h
 obtain ⟨rfl,rfl,rfl⟩:a'=some ⟨b,off,none⟩∧n=L.length∧c=cap:=by simpa [eq_comm] using hv
 refine ⟨_,_,_,rfl,by rw [List.length_take,List.length_drop];omega,by omega,by omega,by omega,?_⟩
 rcases h6 with h6 | ⟨b',off',ha,hlt,hc⟩
 ·exact .inl (by omega)
 ·obtain ⟨rfl,rfl⟩:b=b'∧off=off':=by simpa using ha
  by_cases h0:j - i=0
  ·exact .inl h0
  ·refine .inr ⟨b,off+i*sz,rfl,hlt,fun k hk y u hu=>?_⟩
   rw [List.length_take,List.length_drop] at hk
   rw [List.getElem_take,List.getElem_drop] at hu
   have:=hc (i+k) (by omega) y u hu
   rw [Nat.add_mul,← Nat.add_assoc] at this
   exact this
attribute [local go_sem] ba_size
theorem addz13 (a:Option Addr) (c:Nat):(if c=0 then a else a.map (fun x=>x.add 0))=a:=by
 split
 ·rfl
 ·cases a with
  | none=>rfl
  | some x=>simp [Addr.add]
theorem own_none13 (w:World) (e k:Nat):(w.alloc (.cells #[] e)).ownsRow w.heap.size e k (.slice (some ⟨w.heap.size,0,none⟩) 0 0) 0 [] :=
 ⟨by simp,.inr ⟨w.heap.size,0,#[],rfl,Nat.le_refl _,SBox.new w e #[],Nat.le_refl _,by unfold maxLen;omega,by simp,by simp⟩⟩
theorem own_shape13d {W:World} {B e k n:Nat} {v:Value} {xs:List Value} (h:W.ownsRow B e k v n xs):∃ ad c,v=.slice ad n c:=by
 rcases h.2 with ⟨rfl,rfl⟩ | ⟨g,cap,cur,rfl,_⟩
 ·exact ⟨none,0,rfl⟩
 ·exact ⟨_,_,rfl⟩
theorem ed_cells13 (L:List Ed):∀ u∈recV edV L,u.oneCell'=true:=by
 intro u hu
 obtain ⟨x,_,hu⟩:=List.mem_flatMap.1 hu
 simp [edV] at hu
 rcases hu with rfl | rfl | rfl | rfl | rfl<;>rfl
theorem IsRec.src13 {α:Type} {sz:Nat} {enc:α→List Value} (hz:∀ x,(enc x).length=sz) (hs:0 < sz) {w W:World} {ad:Addr} {n c:Nat} {L:List α} (h:IsRec sz enc w (.slice (some ad) n c) L) (hb:Below w.heap.size w W):∀ j u,(recV enc L)[j]?=some u→W.cell? (ad.add j)=some u:=by
 intro j u hu
 have hj:j < L.length*sz:=by
  have:=(List.getElem?_eq_some_iff.1 hu).1
  rwa [recV_length hz] at this
 have hi:j / sz < L.length:=(Nat.div_lt_iff_lt_mul hs).2 hj
 have hm:j % sz < sz:=Nat.mod_lt _ hs
 have e:j / sz*sz+j % sz=j:=by rw [Nat.mul_comm];exact Nat.div_add_mod j sz
 have g:=recV_get hz L (j / sz) hi (j % sz) hm
 rw [e,hu] at g
 obtain ⟨a',n',c',hv,h1,h2,h3,h4,h6⟩:=h
 obtain ⟨rfl,rfl,rfl⟩:a'=some ad∧n'=n∧c'=c:=by simpa [eq_comm] using hv
 rcases h6 with h6 | ⟨b,off,ha,hlt,hc⟩
 ·exact absurd hi (by rw [h1,h6];exact Nat.not_lt_zero _)
 ·obtain rfl:ad=⟨b,off,none⟩:=by simpa using ha
  have:=hc (j / sz) hi (j % sz) u g.symm
  rw [Nat.add_assoc,e] at this
  have ea:(⟨b,off,none⟩:Addr).add j=⟨b,off+j,none⟩:=by simp [Addr.add]
  rw [ea]
  exact (hb.cell (p:=⟨b,off+j,none⟩) hlt).trans this
set_option maxHeartbeats 8000000 in
theorem turns13_walk (C:P13C) (w:World) (vh:Value) (h:List Ev) (Th:IsEvs w vh h) (Gh:∀ x∈h,goodE x) (level:Int) (gl:okN level) (vl:Value) (l:List Ed) (Tl:IsEds w vl l) (Gl:∀ x∈l,goodEd x) (Sl:vl=.slice none 0 0∨∃ ad n c,vl=.slice (some ad) n c) (n:Int) (gn:okN n) :
 Calls Tryz.prog 7 #[.agg #[vh,.int .i64 level,vl,.int .i64 n]] w fun e w'=>e=.returned (.bool true)∧Below w.heap.size w w':=by
 have HSh:Hid (∀ W,Below w.heap.size w W→Calls Tryz.prog 10 #[] W fun e w'=>e=.returned (.bool true)∧Below W.heap.size W w'):=fun W h=>shown13_any C W
 have HF:Hid (∀ W,Below w.heap.size w W→Calls Tryz.prog 11 #[vh] W fun e w'=>e=.returned (.bool (decide (fewK h)))∧Below W.heap.size W w'):=fun W hb=>few13_any vh h W (Th.below hb)
 by_cases h1:fewK h
 ·rw [decide_eq_true h1] at HF
  by_cases c0:l.length≤100
  ·by_cases c1:n < 0
   ·skip
    obtain ⟨al,cl,rfl,il,jl,kl,_⟩:=Tl.some_at
    obtain ⟨nl,hnl⟩:∃ m,l.length=m:=⟨_,rfl⟩
    obtain ⟨ah,ch,rfl,ih,jh,kh,HCh⟩:=Th.reads
    obtain ⟨nh,hn⟩:∃ m,h.length=m:=⟨_,rfl⟩
    rw [hnl] at il kl c0 ⊢
    rw [hn] at HF ⊢
    have j1:¬ (100:Int) < (nl:Int):=by omega
    clear hnl hn HCh
    have X_t:=SBox.new w 44 #[.slice ah nh ch,.int .i64 level,.slice al nl cl,.int .i64 n]
    have B_t:=Below.alloc (Below.refl w.heap.size w) (Below.size (Below.refl w.heap.size w)) (.cells #[.slice ah nh ch,.int .i64 level,.slice al nl cl,.int .i64 n] 44)
    go_enter Tryz.func7,Tryz.ntmps7
    have f_t0_0:=X_t.cell 0 _ rfl
    have f_t1_0:=X_t.cell 1 _ rfl
    have f_t2_0:=X_t.cell 2 _ rfl
    have f_t3_0:=X_t.cell 3 _ rfl
    go_wp2_with fail
    refine (HSh.out _ B_t).mono ?_
    rintro e w1 ⟨rfl,b1⟩
    have B1:=bel_trans B_t b1
    clear f_t0_0 f_t1_0 f_t2_0 f_t3_0
    replace X_t:=X_t.below b1
    have f_t0_1:=X_t.cell 0 _ rfl
    have f_t1_1:=X_t.cell 1 _ rfl
    have f_t2_1:=X_t.cell 2 _ rfl
    have f_t3_1:=X_t.cell 3 _ rfl
    go_wp2_with fail
    refine (HF.out _ B1).mono ?_
    rintro e w2 ⟨rfl,b2⟩
    have B2:=bel_trans B1 b2
    clear f_t0_1 f_t1_1 f_t2_1 f_t3_1
    replace X_t:=X_t.below b2
    have f_t0_2:=X_t.cell 0 _ rfl
    have f_t1_2:=X_t.cell 1 _ rfl
    have f_t2_2:=X_t.cell 2 _ rfl
    have f_t3_2:=X_t.cell 3 _ rfl
    go_wp2_with fail
    go_ret
    exact ⟨rfl,B2⟩
   ·by_cases c2:(l.length:Int) < n
    ·skip
     obtain ⟨al,cl,rfl,il,jl,kl,_⟩:=Tl.some_at
     obtain ⟨nl,hnl⟩:∃ m,l.length=m:=⟨_,rfl⟩
     obtain ⟨ah,ch,rfl,ih,jh,kh,HCh⟩:=Th.reads
     obtain ⟨nh,hn⟩:∃ m,h.length=m:=⟨_,rfl⟩
     rw [hnl] at il kl c0 c2 ⊢
     rw [hn] at HF ⊢
     have j1:¬ (100:Int) < (nl:Int):=by omega
     have j3:¬ n < 0:=c1
     clear hnl hn HCh
     have X_t:=SBox.new w 44 #[.slice ah nh ch,.int .i64 level,.slice al nl cl,.int .i64 n]
     have B_t:=Below.alloc (Below.refl w.heap.size w) (Below.size (Below.refl w.heap.size w)) (.cells #[.slice ah nh ch,.int .i64 level,.slice al nl cl,.int .i64 n] 44)
     go_enter Tryz.func7,Tryz.ntmps7
     have f_t0_0:=X_t.cell 0 _ rfl
     have f_t1_0:=X_t.cell 1 _ rfl
     have f_t2_0:=X_t.cell 2 _ rfl
     have f_t3_0:=X_t.cell 3 _ rfl
     go_wp2_with fail
     refine (HSh.out _ B_t).mono ?_
     rintro e w1 ⟨rfl,b1⟩
     have B1:=bel_trans B_t b1
     clear f_t0_0 f_t1_0 f_t2_0 f_t3_0
     replace X_t:=X_t.below b1
     have f_t0_1:=X_t.cell 0 _ rfl
     have f_t1_1:=X_t.cell 1 _ rfl
     have f_t2_1:=X_t.cell 2 _ rfl
     have f_t3_1:=X_t.cell 3 _ rfl
     go_wp2_with fail
     refine (HF.out _ B1).mono ?_
     rintro e w2 ⟨rfl,b2⟩
     have B2:=bel_trans B1 b2
     clear f_t0_1 f_t1_1 f_t2_1 f_t3_1
     replace X_t:=X_t.below b2
     have f_t0_2:=X_t.cell 0 _ rfl
     have f_t1_2:=X_t.cell 1 _ rfl
     have f_t2_2:=X_t.cell 2 _ rfl
     have f_t3_2:=X_t.cell 3 _ rfl
     go_wp2_with fail
     go_ret
     exact ⟨rfl,B2⟩
    ·skip
     obtain ⟨N,rfl⟩:∃ N:Nat,n=(N:Int):=⟨n.toNat,by omega⟩
     obtain ⟨i0,hi,hz0,hz1,hz2⟩:=info_parts ed_info
     have HRo:Hid (∀ (m:List Ed) vm W,Below w.heap.size w W→IsEds W vm m→(∀ x∈m,x∈l)→m.length≤100→Calls Tryz.prog 16 #[vh,.int .i64 level,vm] W fun e w'=>e=.returned (.bool (roundB h level m))∧Below W.heap.size W w'):=fun m vm W hb hT hm hl=>C.round h vh vm level m W (Th.below hb) Gh h1.few gl (fun x hx=>Gl x (hm x hx)) hT (by omega)
     have HTu:Hid (roundB h level (l.drop N++l.take N)=roundB h level l):=by show _=_;rw [round_turns,List.take_append_drop]
     have HKl:Hid ((l.drop N++l.take N).length=l.length):=by show _=_;rw [List.length_append,List.length_drop,List.length_take];omega
     have HKm:Hid (∀ x∈l.drop N++l.take N,x∈l):=fun x hx=>by
      rcases List.mem_append.1 hx with h | h
      ·exact List.mem_of_mem_drop h
      ·exact List.mem_of_mem_take h
     obtain ⟨kk,hkk⟩:∃ kk,l.drop N++l.take N=kk:=⟨_,rfl⟩
     have HKK:Hid (l.drop N++l.take N=kk):=hkk
     rw [hkk] at HTu HKl HKm
     clear hkk
     obtain ⟨rb,hrb⟩:∃ b,roundB h level l=b:=⟨_,rfl⟩
     have HRB:=Lib.hid hrb
     rw [hrb] at HTu
     clear hrb
     have e_r:(rb==rb)=true:=beq_self_eq_true _
     have Tl0:=Tl
     have HlD:Hid ((l.drop N).length=l.length - N):=by show _=_;rw [List.length_drop]
     have HlT:Hid ((l.take N).length=N):=by show _=_;rw [List.length_take];omega
     obtain ⟨al,cl,rfl,il,jl,kl,_⟩:=Tl.some_at
     obtain ⟨nl,hnl⟩:∃ m,l.length=m:=⟨_,rfl⟩
     obtain ⟨ah,ch,rfl,ih,jh,kh,HCh⟩:=Th.reads
     obtain ⟨nh,hn⟩:∃ m,h.length=m:=⟨_,rfl⟩
     have HNL:Hid (l.length=nl):=hnl
     rw [hnl] at il kl c0 c2 HKl HlD ⊢
     rw [hn] at HF HRo ⊢
     have j1:¬ (100:Int) < (nl:Int):=by omega
     have j3:¬ (N:Int) < 0:=by omega
     have j4:¬ (nl:Int) < (N:Int):=by omega
     have q2:(N:Int)≤(nl:Int):=by omega
     have q3:(N:Int)≤(cl:Int):=by omega
     have q4:N≤cl:=by omega
     have q5:N≤nl:=by omega
     have q8:(nl:Int)≤(cl:Int):=by omega
     have q9:(0:Int)≤(N:Int):=by omega
     clear hn HCh c1 c2
     by_cases e0:nl=0
     ·skip
      obtain rfl:N=0:=by omega
      have hl0:l=[]:=List.length_eq_zero_iff.1 (by rw [HNL.out];exact e0)
      subst hl0
      subst e0
      clear HKK HKm HKl HTu HlD HlT HNL hnl
      simp only [List.length_nil] at Tl0
      rcases Sl with e | ⟨ad,m',c',e⟩
      ·simp only [Value.slice.injEq] at e
       obtain ⟨rfl,_,rfl⟩:=e
       have X_t:=SBox.new w 44 #[.slice ah nh ch,.int .i64 level,.slice none 0 0,.int .i64 0]
       have B_t:=Below.alloc (Below.refl w.heap.size w) (Below.size (Below.refl w.heap.size w)) (.cells #[.slice ah nh ch,.int .i64 level,.slice none 0 0,.int .i64 0] 44)
       go_enter Tryz.func7,Tryz.ntmps7
       have f_t0_0:=X_t.cell 0 _ rfl
       have f_t1_0:=X_t.cell 1 _ rfl
       have f_t2_0:=X_t.cell 2 _ rfl
       have f_t3_0:=X_t.cell 3 _ rfl
       go_wp2_with fail
       refine (HSh.out _ B_t).mono ?_
       rintro e w1 ⟨rfl,b1⟩
       have B1:=bel_trans B_t b1
       clear f_t0_0 f_t1_0 f_t2_0 f_t3_0
       replace X_t:=X_t.below b1
       have f_t0_1:=X_t.cell 0 _ rfl
       have f_t1_1:=X_t.cell 1 _ rfl
       have f_t2_1:=X_t.cell 2 _ rfl
       have f_t3_1:=X_t.cell 3 _ rfl
       go_wp2_with fail
       refine (HF.out _ B1).mono ?_
       rintro e w2 ⟨rfl,b2⟩
       have B2:=bel_trans B1 b2
       clear f_t0_1 f_t1_1 f_t2_1 f_t3_1
       replace X_t:=X_t.below b2
       have f_t0_2:=X_t.cell 0 _ rfl
       have f_t1_2:=X_t.cell 1 _ rfl
       have f_t2_2:=X_t.cell 2 _ rfl
       have f_t3_2:=X_t.cell 3 _ rfl
       go_wp2_with fail
       refine wp_region_any (by kernel_rfl) ?_
       change wpAny _ _ _ _ _ _ _ (World.drew _)
       generalize hwd:World.drew _=wd
       have Bd:Below w.heap.size w wd:=by rw [← hwd];exact B2.drew
       clear hwd
       refine any_of_C (C:=fun V=>True) 9 _ _ _ _ ?_
       refine takeC (i:=1) (v:=.slice none 0 0) rfl (by kernel_rfl) (by kernel_rfl) (by kernel_rfl) (by kernel_rfl) (by kernel_rfl) (fun _ _ _ h=>h) (Or.inl ⟨by kernel_rfl,fun V hV=>by go_simp⟩) ?_
       refine takeC (i:=2) (v:=.int .i64 0) rfl (by kernel_rfl) (by kernel_rfl) (by kernel_rfl) (by kernel_rfl) (by kernel_rfl) (fun _ _ _ h=>h) (Or.inl ⟨by kernel_rfl,fun V hV=>by go_simp⟩) ?_
       refine takeC (i:=3) (v:=.slice none 0 0) rfl (by kernel_rfl) (by kernel_rfl) (by kernel_rfl) (by kernel_rfl) (by kernel_rfl) (fun _ _ _ h=>h) (Or.inl ⟨by kernel_rfl,fun V hV=>by first | (go_simp;done) | (go_simp;exact addz13 _ _) | (simp [Addr.add];done)⟩) ?_
       refine takeC (i:=5) (v:=.slice none 0 0) rfl (by kernel_rfl) (by kernel_rfl) (by kernel_rfl) (by kernel_rfl) (by kernel_rfl) (fun _ _ _ h=>h) (Or.inl ⟨by kernel_rfl,fun V hV=>by go_simp⟩) ?_
       refine takeC (i:=6) (v:=.int .i64 0) rfl (by kernel_rfl) (by kernel_rfl) (by kernel_rfl) (by kernel_rfl) (by kernel_rfl) (fun _ _ _ h=>h) (Or.inl ⟨by kernel_rfl,fun V hV=>by go_simp⟩) ?_
       refine takeC (i:=7) (v:=.slice none 0 0) rfl (by kernel_rfl) (by kernel_rfl) (by kernel_rfl) (by kernel_rfl) (by kernel_rfl) (fun _ _ _ h=>h) (Or.inl ⟨by kernel_rfl,fun V hV=>by first | (go_simp;done) | (go_simp;exact addz13 _ _) | (simp [Addr.add];done)⟩) ?_
       refine consC (i:=0) (by kernel_rfl) (by kernel_rfl) trivial rfl (fun K hK=>?_)
       go_wp2_with fail
       have O0:=own_none13 wd 71 5
       have C0:Below wd.heap.size wd (wd.alloc (.cells #[] 71)):=(Below.refl wd.heap.size wd).alloc (Nat.le_refl _) _
       refine consC (i:=4) (by kernel_rfl) (by kernel_rfl) trivial rfl (fun K hK=>?_)
       go_wp2_with fail
       refine consC (i:=8) (by kernel_rfl) (by kernel_rfl) trivial rfl (fun K hK=>?_)
       go_wp2_with fail
       obtain ⟨v6,hv6⟩:∃ v:Value,v=.slice (some ⟨wd.heap.size,0,none⟩) 0 0:=⟨_,rfl⟩
       have own6:=O0
       have C6:=C0
       have own5:=O0
       rw [← hv6] at own6
       generalize hW6:wd.alloc (.cells #[] 71)=W6 at own6 C6 ⊢
       clear hW6
       have B6:Below w.heap.size w W6:=bel_trans Bd C6
       have T6:IsEds W6 v6 ([]:List Ed):=IsRec.own (L:=([]:List Ed)) edV_len (by omega) own6 (by omega)
       subst hv6
       clear own5 own6 O0
       go_wp2_with fail
       refine lastC (by kernel_rfl) (by kernel_rfl) trivial (of_decide_eq_true (by kernel_rfl)) ?_
       refine any_seqI [9] [_] _ _ _ rfl (by kernel_rfl) ?_
       have D1:=HRo.out [] _ _ B6 (Tl0.below B6) (fun _ h=>h) (by simp)
       rw [HRB.out] at D1
       have D2:=Lib.hid (fun W (hW:Below W6.heap.size W6 W)=>HRo.out [] _ W (bel_trans B6 hW) (T6.below hW) (fun _ h=>h) (by simp))
       rw [HRB.out] at D2
       go_wp2_with fail
       refine D1.mono ?_
       rintro e w7 ⟨rfl,b7⟩
       go_wp2_with fail
       refine (D2.out _ b7).mono ?_
       rintro e w8 ⟨rfl,b8⟩
       go_wp2_with fail
       go_ret
       exact ⟨rfl,bel_trans B6 (bel_trans b7 b8)⟩
      ·simp only [Value.slice.injEq] at e
       obtain ⟨rfl,rfl,e3⟩:=e
       subst e3
       have X_t:=SBox.new w 44 #[.slice ah nh ch,.int .i64 level,.slice (some ad) 0 cl,.int .i64 0]
       have B_t:=Below.alloc (Below.refl w.heap.size w) (Below.size (Below.refl w.heap.size w)) (.cells #[.slice ah nh ch,.int .i64 level,.slice (some ad) 0 cl,.int .i64 0] 44)
       go_enter Tryz.func7,Tryz.ntmps7
       have f_t0_0:=X_t.cell 0 _ rfl
       have f_t1_0:=X_t.cell 1 _ rfl
       have f_t2_0:=X_t.cell 2 _ rfl
       have f_t3_0:=X_t.cell 3 _ rfl
       go_wp2_with fail
       refine (HSh.out _ B_t).mono ?_
       rintro e w1 ⟨rfl,b1⟩
       have B1:=bel_trans B_t b1
       clear f_t0_0 f_t1_0 f_t2_0 f_t3_0
       replace X_t:=X_t.below b1
       have f_t0_1:=X_t.cell 0 _ rfl
       have f_t1_1:=X_t.cell 1 _ rfl
       have f_t2_1:=X_t.cell 2 _ rfl
       have f_t3_1:=X_t.cell 3 _ rfl
       go_wp2_with fail
       refine (HF.out _ B1).mono ?_
       rintro e w2 ⟨rfl,b2⟩
       have B2:=bel_trans B1 b2
       clear f_t0_1 f_t1_1 f_t2_1 f_t3_1
       replace X_t:=X_t.below b2
       have f_t0_2:=X_t.cell 0 _ rfl
       have f_t1_2:=X_t.cell 1 _ rfl
       have f_t2_2:=X_t.cell 2 _ rfl
       have f_t3_2:=X_t.cell 3 _ rfl
       go_wp2_with fail
       refine wp_region_any (by kernel_rfl) ?_
       change wpAny _ _ _ _ _ _ _ (World.drew _)
       generalize hwd:World.drew _=wd
       have Bd:Below w.heap.size w wd:=by rw [← hwd];exact B2.drew
       clear hwd
       refine any_of_C (C:=fun V=>True) 9 _ _ _ _ ?_
       refine takeC (i:=1) (v:=.slice (some ad) 0 cl) rfl (by kernel_rfl) (by kernel_rfl) (by kernel_rfl) (by kernel_rfl) (by kernel_rfl) (fun _ _ _ h=>h) (Or.inl ⟨by kernel_rfl,fun V hV=>by go_simp⟩) ?_
       refine takeC (i:=2) (v:=.int .i64 0) rfl (by kernel_rfl) (by kernel_rfl) (by kernel_rfl) (by kernel_rfl) (by kernel_rfl) (fun _ _ _ h=>h) (Or.inl ⟨by kernel_rfl,fun V hV=>by go_simp⟩) ?_
       refine takeC (i:=3) (v:=.slice (some ad) 0 cl) rfl (by kernel_rfl) (by kernel_rfl) (by kernel_rfl) (by kernel_rfl) (by kernel_rfl) (fun _ _ _ h=>h) (Or.inl ⟨by kernel_rfl,fun V hV=>by first | (go_simp;done) | (go_simp;exact addz13 _ _) | (simp [Addr.add];done)⟩) ?_
       refine takeC (i:=5) (v:=.slice (some ad) 0 cl) rfl (by kernel_rfl) (by kernel_rfl) (by kernel_rfl) (by kernel_rfl) (by kernel_rfl) (fun _ _ _ h=>h) (Or.inl ⟨by kernel_rfl,fun V hV=>by go_simp⟩) ?_
       refine takeC (i:=6) (v:=.int .i64 0) rfl (by kernel_rfl) (by kernel_rfl) (by kernel_rfl) (by kernel_rfl) (by kernel_rfl) (fun _ _ _ h=>h) (Or.inl ⟨by kernel_rfl,fun V hV=>by go_simp⟩) ?_
       refine takeC (i:=7) (v:=.slice (some ad) 0 cl) rfl (by kernel_rfl) (by kernel_rfl) (by kernel_rfl) (by kernel_rfl) (by kernel_rfl) (fun _ _ _ h=>h) (Or.inl ⟨by kernel_rfl,fun V hV=>by first | (go_simp;done) | (go_simp;exact addz13 _ _) | (simp [Addr.add];done)⟩) ?_
       refine consC (i:=0) (by kernel_rfl) (by kernel_rfl) trivial rfl (fun K hK=>?_)
       go_wp2_with fail
       have O0:=own_none13 wd 71 5
       have C0:Below wd.heap.size wd (wd.alloc (.cells #[] 71)):=(Below.refl wd.heap.size wd).alloc (Nat.le_refl _) _
       refine consC (i:=4) (by kernel_rfl) (by kernel_rfl) trivial rfl (fun K hK=>?_)
       refine wpList_append_own_at _ rfl _ _ 26 rfl wd.heap.size 71 i0 (.agg #[.int .i64 0,.int .i64 0,.int .i64 0,.int .i64 0,.int .i64 0]) 5 40 Tryz.underlying26 hi hz0 hz1 hz2 rfl (by decide) _ _ _ rfl O0 ad 0 cl (recV edV ([]:List Ed)) rfl ?p1 ?p2 ?p3 ?p4 ?p5 ?p6 ?_
       case p1=>rfl
       case p2=>intro j u hj;simp [recV] at hj
       case p3=>intro u hu;simp [recV] at hu
       case p4=>unfold maxLen;omega
       case p5=>omega
       case p6=>simp
       intro v5 W5 own5 gr5 _ _
       have C5:Below wd.heap.size wd W5:=C0.grown gr5 (by simp) (fun j hj=>(O0.lt j hj).1)
       clear gr5
       go_wp2_with fail
       refine consC (i:=8) (by kernel_rfl) (by kernel_rfl) trivial rfl (fun K hK=>?_)
       refine wpList_append_own_at _ rfl _ _ 26 rfl wd.heap.size 71 i0 (.agg #[.int .i64 0,.int .i64 0,.int .i64 0,.int .i64 0,.int .i64 0]) 5 40 Tryz.underlying26 hi hz0 hz1 hz2 rfl (by decide) _ _ _ rfl own5 ad 0 cl (recV edV ([]:List Ed)) rfl ?r1 ?r2 ?r3 ?r4 ?r5 ?r6 ?_
       case r1=>rfl
       case r2=>intro j u hj;simp [recV] at hj
       case r3=>intro u hu;simp [recV] at hu
       case r4=>unfold maxLen;omega
       case r5=>omega
       case r6=>exact C5.size
       intro v6 W6 own6 gr6 _ _
       have C6:Below wd.heap.size wd W6:=C5.grown gr6 C5.size (fun j hj=>(own5.lt j hj).1)
       clear gr6
       have B6:Below w.heap.size w W6:=bel_trans Bd C6
       have T6:IsEds W6 v6 ([]:List Ed):=IsRec.own (L:=([]:List Ed)) edV_len (by omega) own6 (by omega)
       obtain ⟨g6,c6,rfl⟩:=own_shape13d own6
       clear own5 own6 O0
       go_wp2_with fail
       refine lastC (by kernel_rfl) (by kernel_rfl) trivial (of_decide_eq_true (by kernel_rfl)) ?_
       refine any_seqI [9] [_] _ _ _ rfl (by kernel_rfl) ?_
       have D1:=HRo.out [] _ _ B6 (Tl0.below B6) (fun _ h=>h) (by simp)
       rw [HRB.out] at D1
       have D2:=Lib.hid (fun W (hW:Below W6.heap.size W6 W)=>HRo.out [] _ W (bel_trans B6 hW) (T6.below hW) (fun _ h=>h) (by simp))
       rw [HRB.out] at D2
       go_wp2_with fail
       refine D1.mono ?_
       rintro e w7 ⟨rfl,b7⟩
       go_wp2_with fail
       refine (D2.out _ b7).mono ?_
       rintro e w8 ⟨rfl,b8⟩
       go_wp2_with fail
       go_ret
       exact ⟨rfl,bel_trans B6 (bel_trans b7 b8)⟩
     ·obtain ⟨bl,ol,rfl⟩:∃ bl ol,al=some ⟨bl,ol,none⟩:=by
       obtain ⟨a',cap',ea,_,_,_,HCa⟩:=Tl0.some_at
       obtain ⟨b,off,eb,_⟩:=HCa.out 0 (by rw [hnl];omega)
       simp only [Value.slice.injEq] at ea
       exact ⟨b,off,ea.1.trans eb⟩
      clear hnl
      have RT:Hid (∀ W,Below w.heap.size w W→IsRec 5 edV W (.slice (some ⟨bl,ol,none⟩) N cl) (l.take N)):=fun W hb=>by
       have h:=Tl0.below hb
       have e:=IsRec.cut h 0 N (Nat.zero_le _) (by rw [HNL.out];omega)
       simpa using e
      have RD:Hid (∀ W,Below w.heap.size w W→IsRec 5 edV W (.slice (some ⟨bl,ol+N*5,none⟩) (nl - N) (cl - N)) (l.drop N)):=fun W hb=>by
       have h:=Tl0.below hb
       have e:=IsRec.cut h N l.length (by rw [HNL.out];omega) (Nat.le_refl _)
       rw [List.take_of_length_le (by rw [List.length_drop];exact Nat.le_refl _),HNL.out] at e
       exact e
      by_cases q6:cl=N
      ·skip
       have q6':=q6.symm
       subst q6'
       clear q6
       obtain rfl:N=nl:=by omega
       have X_t:=SBox.new w 44 #[.slice ah nh ch,.int .i64 level,.slice (some ⟨bl,ol,none⟩) N N,.int .i64 (N:Int)]
       have B_t:=Below.alloc (Below.refl w.heap.size w) (Below.size (Below.refl w.heap.size w)) (.cells #[.slice ah nh ch,.int .i64 level,.slice (some ⟨bl,ol,none⟩) N N,.int .i64 (N:Int)] 44)
       go_enter Tryz.func7,Tryz.ntmps7
       have f_t0_0:=X_t.cell 0 _ rfl
       have f_t1_0:=X_t.cell 1 _ rfl
       have f_t2_0:=X_t.cell 2 _ rfl
       have f_t3_0:=X_t.cell 3 _ rfl
       go_wp2_with fail
       refine (HSh.out _ B_t).mono ?_
       rintro e w1 ⟨rfl,b1⟩
       have B1:=bel_trans B_t b1
       clear f_t0_0 f_t1_0 f_t2_0 f_t3_0
       replace X_t:=X_t.below b1
       have f_t0_1:=X_t.cell 0 _ rfl
       have f_t1_1:=X_t.cell 1 _ rfl
       have f_t2_1:=X_t.cell 2 _ rfl
       have f_t3_1:=X_t.cell 3 _ rfl
       go_wp2_with fail
       refine (HF.out _ B1).mono ?_
       rintro e w2 ⟨rfl,b2⟩
       have B2:=bel_trans B1 b2
       clear f_t0_1 f_t1_1 f_t2_1 f_t3_1
       replace X_t:=X_t.below b2
       have f_t0_2:=X_t.cell 0 _ rfl
       have f_t1_2:=X_t.cell 1 _ rfl
       have f_t2_2:=X_t.cell 2 _ rfl
       have f_t3_2:=X_t.cell 3 _ rfl
       go_wp2_with fail
       refine wp_region_any (by kernel_rfl) ?_
       change wpAny _ _ _ _ _ _ _ (World.drew _)
       generalize hwd:World.drew _=wd
       have Bd:Below w.heap.size w wd:=by rw [← hwd];exact B2.drew
       clear hwd
       refine any_of_C (C:=fun V=>True) 9 _ _ _ _ ?_
       refine takeC (i:=1) (v:=.slice (some ⟨bl,ol,none⟩) N N) rfl (by kernel_rfl) (by kernel_rfl) (by kernel_rfl) (by kernel_rfl) (by kernel_rfl) (fun _ _ _ h=>h) (Or.inl ⟨by kernel_rfl,fun V hV=>by go_simp⟩) ?_
       refine takeC (i:=2) (v:=.int .i64 (N:Int)) rfl (by kernel_rfl) (by kernel_rfl) (by kernel_rfl) (by kernel_rfl) (by kernel_rfl) (fun _ _ _ h=>h) (Or.inl ⟨by kernel_rfl,fun V hV=>by go_simp⟩) ?_
       refine takeC (i:=3) (v:=.slice (some ⟨bl,ol,none⟩) 0 0) rfl (by kernel_rfl) (by kernel_rfl) (by kernel_rfl) (by kernel_rfl) (by kernel_rfl) (fun _ _ _ h=>h) (Or.inl ⟨by kernel_rfl,fun V hV=>by go_simp⟩) ?_
       refine takeC (i:=5) (v:=.slice (some ⟨bl,ol,none⟩) N N) rfl (by kernel_rfl) (by kernel_rfl) (by kernel_rfl) (by kernel_rfl) (by kernel_rfl) (fun _ _ _ h=>h) (Or.inl ⟨by kernel_rfl,fun V hV=>by go_simp⟩) ?_
       refine takeC (i:=6) (v:=.int .i64 (N:Int)) rfl (by kernel_rfl) (by kernel_rfl) (by kernel_rfl) (by kernel_rfl) (by kernel_rfl) (fun _ _ _ h=>h) (Or.inl ⟨by kernel_rfl,fun V hV=>by go_simp⟩) ?_
       refine takeC (i:=7) (v:=.slice (some ⟨bl,ol,none⟩) N N) rfl (by kernel_rfl) (by kernel_rfl) (by kernel_rfl) (by kernel_rfl) (by kernel_rfl) (fun _ _ _ h=>h) (Or.inl ⟨by kernel_rfl,fun V hV=>by go_simp⟩) ?_
       refine consC (i:=0) (by kernel_rfl) (by kernel_rfl) trivial rfl (fun K hK=>?_)
       go_wp2_with fail
       have O0:=own_none13 wd 71 5
       have C0:Below wd.heap.size wd (wd.alloc (.cells #[] 71)):=(Below.refl wd.heap.size wd).alloc (Nat.le_refl _) _
       refine consC (i:=4) (by kernel_rfl) (by kernel_rfl) trivial rfl (fun K hK=>?_)
       refine wpList_append_own_at _ rfl _ _ 26 rfl wd.heap.size 71 i0 (.agg #[.int .i64 0,.int .i64 0,.int .i64 0,.int .i64 0,.int .i64 0]) 5 40 Tryz.underlying26 hi hz0 hz1 hz2 rfl (by decide) _ _ _ rfl O0 _ _ _ (recV edV ([]:List Ed)) rfl ?p1 ?p2 ?p3 ?p4 ?p5 ?p6 ?_
       case p1=>first | rfl | (simp [recV];omega)
       case p2=>intro j u hj;simp [recV] at hj
       case p3=>intro u hu;simp [recV] at hu
       case p4=>unfold maxLen;omega
       case p5=>omega
       case p6=>simp
       intro v5 W5 own5 gr5 _ _
       rw [show ([]:List Ed)=l.drop N by symm;rw [List.drop_eq_nil_iff,HNL.out];omega] at own5
       have C5:Below wd.heap.size wd W5:=C0.grown gr5 (by simp) (fun j hj=>(O0.lt j hj).1)
       clear gr5
       go_wp2_with fail
       refine consC (i:=8) (by kernel_rfl) (by kernel_rfl) trivial rfl (fun K hK=>?_)
       refine wpList_append_own_at _ rfl _ _ 26 rfl wd.heap.size 71 i0 (.agg #[.int .i64 0,.int .i64 0,.int .i64 0,.int .i64 0,.int .i64 0]) 5 40 Tryz.underlying26 hi hz0 hz1 hz2 rfl (by decide) _ _ _ rfl own5 ⟨bl,ol,none⟩ N N (recV edV (l.take N)) rfl ?r1 ?r2 ?r3 ?r4 ?r5 ?r6 ?_
       case r1=>rw [recV_length edV_len,HlT.out]
       case r2=>exact IsRec.src13 edV_len (by omega) (RT.out wd Bd) C5
       case r3=>exact ed_cells13 _
       case r4=>unfold maxLen;omega
       case r5=>omega
       case r6=>exact C5.size
       intro v6 W6 own6 gr6 _ _
       have C6:Below wd.heap.size wd W6:=C5.grown gr6 C5.size (fun j hj=>(own5.lt j hj).1)
       clear gr6
       have B6:Below w.heap.size w W6:=bel_trans Bd C6
       have HN6:Hid (0+0+N=N):=by show _=_;omega
       rw [HN6.out] at own6
       have T6:IsEds W6 v6 kk:=IsRec.own (L:=kk) edV_len (by omega) (by
        rw [List.nil_append,← recV_append,HKK.out] at own6
        exact own6) (by omega)
       obtain ⟨g6,c6,rfl⟩:=own_shape13d own6
       clear own5 own6 O0
       go_wp2_with fail
       refine lastC (by kernel_rfl) (by kernel_rfl) trivial (of_decide_eq_true (by kernel_rfl)) ?_
       refine any_seqI [9] [_] _ _ _ rfl (by kernel_rfl) ?_
       have D1:=HRo.out l _ _ B6 (Tl0.below B6) (fun _ h=>h) (by rw [HNL.out];exact c0)
       rw [HRB.out,HNL.out] at D1
       have D2:=Lib.hid (fun W (hW:Below W6.heap.size W6 W)=>HRo.out kk _ W (bel_trans B6 hW) (T6.below hW) HKm.out (by rw [HKl.out];exact c0))
       rw [HTu.out] at D2
       go_wp2_with fail
       refine D1.mono ?_
       rintro e w7 ⟨rfl,b7⟩
       go_wp2_with fail
       refine (D2.out _ b7).mono ?_
       rintro e w8 ⟨rfl,b8⟩
       go_wp2_with fail
       go_ret
       exact ⟨rfl,bel_trans B6 (bel_trans b7 b8)⟩
      ·skip
       have X_t:=SBox.new w 44 #[.slice ah nh ch,.int .i64 level,.slice (some ⟨bl,ol,none⟩) nl cl,.int .i64 (N:Int)]
       have B_t:=Below.alloc (Below.refl w.heap.size w) (Below.size (Below.refl w.heap.size w)) (.cells #[.slice ah nh ch,.int .i64 level,.slice (some ⟨bl,ol,none⟩) nl cl,.int .i64 (N:Int)] 44)
       go_enter Tryz.func7,Tryz.ntmps7
       have f_t0_0:=X_t.cell 0 _ rfl
       have f_t1_0:=X_t.cell 1 _ rfl
       have f_t2_0:=X_t.cell 2 _ rfl
       have f_t3_0:=X_t.cell 3 _ rfl
       go_wp2_with fail
       refine (HSh.out _ B_t).mono ?_
       rintro e w1 ⟨rfl,b1⟩
       have B1:=bel_trans B_t b1
       clear f_t0_0 f_t1_0 f_t2_0 f_t3_0
       replace X_t:=X_t.below b1
       have f_t0_1:=X_t.cell 0 _ rfl
       have f_t1_1:=X_t.cell 1 _ rfl
       have f_t2_1:=X_t.cell 2 _ rfl
       have f_t3_1:=X_t.cell 3 _ rfl
       go_wp2_with fail
       refine (HF.out _ B1).mono ?_
       rintro e w2 ⟨rfl,b2⟩
       have B2:=bel_trans B1 b2
       clear f_t0_1 f_t1_1 f_t2_1 f_t3_1
       replace X_t:=X_t.below b2
       have f_t0_2:=X_t.cell 0 _ rfl
       have f_t1_2:=X_t.cell 1 _ rfl
       have f_t2_2:=X_t.cell 2 _ rfl
       have f_t3_2:=X_t.cell 3 _ rfl
       go_wp2_with fail
       refine wp_region_any (by kernel_rfl) ?_
       change wpAny _ _ _ _ _ _ _ (World.drew _)
       generalize hwd:World.drew _=wd
       have Bd:Below w.heap.size w wd:=by rw [← hwd];exact B2.drew
       clear hwd
       refine any_of_C (C:=fun V=>True) 9 _ _ _ _ ?_
       refine takeC (i:=1) (v:=.slice (some ⟨bl,ol,none⟩) nl cl) rfl (by kernel_rfl) (by kernel_rfl) (by kernel_rfl) (by kernel_rfl) (by kernel_rfl) (fun _ _ _ h=>h) (Or.inl ⟨by kernel_rfl,fun V hV=>by go_simp⟩) ?_
       refine takeC (i:=2) (v:=.int .i64 (N:Int)) rfl (by kernel_rfl) (by kernel_rfl) (by kernel_rfl) (by kernel_rfl) (by kernel_rfl) (fun _ _ _ h=>h) (Or.inl ⟨by kernel_rfl,fun V hV=>by go_simp⟩) ?_
       refine takeC (i:=3) (v:=.slice (some ⟨bl,ol+N*5,none⟩) (nl - N) (cl - N)) rfl (by kernel_rfl) (by kernel_rfl) (by kernel_rfl) (by kernel_rfl) (by kernel_rfl) (fun _ _ _ h=>h) (Or.inl ⟨by kernel_rfl,fun V hV=>by go_simp⟩) ?_
       refine takeC (i:=5) (v:=.slice (some ⟨bl,ol,none⟩) nl cl) rfl (by kernel_rfl) (by kernel_rfl) (by kernel_rfl) (by kernel_rfl) (by kernel_rfl) (fun _ _ _ h=>h) (Or.inl ⟨by kernel_rfl,fun V hV=>by go_simp⟩) ?_
       refine takeC (i:=6) (v:=.int .i64 (N:Int)) rfl (by kernel_rfl) (by kernel_rfl) (by kernel_rfl) (by kernel_rfl) (by kernel_rfl) (fun _ _ _ h=>h) (Or.inl ⟨by kernel_rfl,fun V hV=>by go_simp⟩) ?_
       refine takeC (i:=7) (v:=.slice (some ⟨bl,ol,none⟩) N cl) rfl (by kernel_rfl) (by kernel_rfl) (by kernel_rfl) (by kernel_rfl) (by kernel_rfl) (fun _ _ _ h=>h) (Or.inl ⟨by kernel_rfl,fun V hV=>by go_simp⟩) ?_
       refine consC (i:=0) (by kernel_rfl) (by kernel_rfl) trivial rfl (fun K hK=>?_)
       go_wp2_with fail
       have O0:=own_none13 wd 71 5
       have C0:Below wd.heap.size wd (wd.alloc (.cells #[] 71)):=(Below.refl wd.heap.size wd).alloc (Nat.le_refl _) _
       refine consC (i:=4) (by kernel_rfl) (by kernel_rfl) trivial rfl (fun K hK=>?_)
       refine wpList_append_own_at _ rfl _ _ 26 rfl wd.heap.size 71 i0 (.agg #[.int .i64 0,.int .i64 0,.int .i64 0,.int .i64 0,.int .i64 0]) 5 40 Tryz.underlying26 hi hz0 hz1 hz2 rfl (by decide) _ _ _ rfl O0 ⟨bl,ol+N*5,none⟩ (nl - N) (cl - N) (recV edV (l.drop N)) rfl ?p1 ?p2 ?p3 ?p4 ?p5 ?p6 ?_
       case p1=>rw [recV_length edV_len,HlD.out]
       case p2=>exact IsRec.src13 edV_len (by omega) (RD.out wd Bd) C0
       case p3=>exact ed_cells13 _
       case p4=>unfold maxLen;omega
       case p5=>omega
       case p6=>simp
       intro v5 W5 own5 gr5 _ _
       have C5:Below wd.heap.size wd W5:=C0.grown gr5 (by simp) (fun j hj=>(O0.lt j hj).1)
       clear gr5
       go_wp2_with fail
       refine consC (i:=8) (by kernel_rfl) (by kernel_rfl) trivial rfl (fun K hK=>?_)
       refine wpList_append_own_at _ rfl _ _ 26 rfl wd.heap.size 71 i0 (.agg #[.int .i64 0,.int .i64 0,.int .i64 0,.int .i64 0,.int .i64 0]) 5 40 Tryz.underlying26 hi hz0 hz1 hz2 rfl (by decide) _ _ _ rfl own5 ⟨bl,ol,none⟩ N cl (recV edV (l.take N)) rfl ?r1 ?r2 ?r3 ?r4 ?r5 ?r6 ?_
       case r1=>rw [recV_length edV_len,HlT.out]
       case r2=>exact IsRec.src13 edV_len (by omega) (RT.out wd Bd) C5
       case r3=>exact ed_cells13 _
       case r4=>unfold maxLen;omega
       case r5=>omega
       case r6=>exact C5.size
       intro v6 W6 own6 gr6 _ _
       have C6:Below wd.heap.size wd W6:=C5.grown gr6 C5.size (fun j hj=>(own5.lt j hj).1)
       clear gr6
       have B6:Below w.heap.size w W6:=bel_trans Bd C6
       have HN6:Hid (0+(nl - N)+N=nl):=by show _=_;omega
       rw [HN6.out] at own6
       have T6:IsEds W6 v6 kk:=IsRec.own (L:=kk) edV_len (by omega) (by
        rw [List.nil_append,← recV_append,HKK.out] at own6
        exact own6) (by omega)
       obtain ⟨g6,c6,rfl⟩:=own_shape13d own6
       clear own5 own6 O0
       go_wp2_with fail
       refine lastC (by kernel_rfl) (by kernel_rfl) trivial (of_decide_eq_true (by kernel_rfl)) ?_
       refine any_seqI [9] [_] _ _ _ rfl (by kernel_rfl) ?_
       have D1:=HRo.out l _ _ B6 (Tl0.below B6) (fun _ h=>h) (by rw [HNL.out];exact c0)
       rw [HRB.out,HNL.out] at D1
       have D2:=Lib.hid (fun W (hW:Below W6.heap.size W6 W)=>HRo.out kk _ W (bel_trans B6 hW) (T6.below hW) HKm.out (by rw [HKl.out];exact c0))
       rw [HTu.out] at D2
       go_wp2_with fail
       refine D1.mono ?_
       rintro e w7 ⟨rfl,b7⟩
       go_wp2_with fail
       refine (D2.out _ b7).mono ?_
       rintro e w8 ⟨rfl,b8⟩
       go_wp2_with fail
       go_ret
       exact ⟨rfl,bel_trans B6 (bel_trans b7 b8)⟩
  ·skip
   obtain ⟨al,cl,rfl,il,jl,kl,_⟩:=Tl.some_at
   obtain ⟨nl,hnl⟩:∃ m,l.length=m:=⟨_,rfl⟩
   obtain ⟨ah,ch,rfl,ih,jh,kh,HCh⟩:=Th.reads
   obtain ⟨nh,hn⟩:∃ m,h.length=m:=⟨_,rfl⟩
   rw [hnl] at il kl c0 ⊢
   rw [hn] at HF ⊢
   have j1:(100:Int) < (nl:Int):=by omega
   clear hnl hn HCh
   have X_t:=SBox.new w 44 #[.slice ah nh ch,.int .i64 level,.slice al nl cl,.int .i64 n]
   have B_t:=Below.alloc (Below.refl w.heap.size w) (Below.size (Below.refl w.heap.size w)) (.cells #[.slice ah nh ch,.int .i64 level,.slice al nl cl,.int .i64 n] 44)
   go_enter Tryz.func7,Tryz.ntmps7
   have f_t0_0:=X_t.cell 0 _ rfl
   have f_t1_0:=X_t.cell 1 _ rfl
   have f_t2_0:=X_t.cell 2 _ rfl
   have f_t3_0:=X_t.cell 3 _ rfl
   go_wp2_with fail
   refine (HSh.out _ B_t).mono ?_
   rintro e w1 ⟨rfl,b1⟩
   have B1:=bel_trans B_t b1
   clear f_t0_0 f_t1_0 f_t2_0 f_t3_0
   replace X_t:=X_t.below b1
   have f_t0_1:=X_t.cell 0 _ rfl
   have f_t1_1:=X_t.cell 1 _ rfl
   have f_t2_1:=X_t.cell 2 _ rfl
   have f_t3_1:=X_t.cell 3 _ rfl
   go_wp2_with fail
   refine (HF.out _ B1).mono ?_
   rintro e w2 ⟨rfl,b2⟩
   have B2:=bel_trans B1 b2
   clear f_t0_1 f_t1_1 f_t2_1 f_t3_1
   replace X_t:=X_t.below b2
   have f_t0_2:=X_t.cell 0 _ rfl
   have f_t1_2:=X_t.cell 1 _ rfl
   have f_t2_2:=X_t.cell 2 _ rfl
   have f_t3_2:=X_t.cell 3 _ rfl
   go_wp2_with fail
   go_ret
   exact ⟨rfl,B2⟩
 ·rw [decide_eq_false h1] at HF
  obtain ⟨al,cl,rfl,il,jl,kl,_⟩:=Tl.some_at
  obtain ⟨nl,hnl⟩:∃ m,l.length=m:=⟨_,rfl⟩
  obtain ⟨ah,ch,rfl,ih,jh,kh,HCh⟩:=Th.reads
  obtain ⟨nh,hn⟩:∃ m,h.length=m:=⟨_,rfl⟩
  rw [hnl] at il kl ⊢
  rw [hn] at HF ⊢
  clear hnl hn HCh
  have X_t:=SBox.new w 44 #[.slice ah nh ch,.int .i64 level,.slice al nl cl,.int .i64 n]
  have B_t:=Below.alloc (Below.refl w.heap.size w) (Below.size (Below.refl w.heap.size w)) (.cells #[.slice ah nh ch,.int .i64 level,.slice al nl cl,.int .i64 n] 44)
  go_enter Tryz.func7,Tryz.ntmps7
  have f_t0_0:=X_t.cell 0 _ rfl
  have f_t1_0:=X_t.cell 1 _ rfl
  have f_t2_0:=X_t.cell 2 _ rfl
  have f_t3_0:=X_t.cell 3 _ rfl
  go_wp2_with fail
  refine (HSh.out _ B_t).mono ?_
  rintro e w1 ⟨rfl,b1⟩
  have B1:=bel_trans B_t b1
  clear f_t0_0 f_t1_0 f_t2_0 f_t3_0
  replace X_t:=X_t.below b1
  have f_t0_1:=X_t.cell 0 _ rfl
  have f_t1_1:=X_t.cell 1 _ rfl
  have f_t2_1:=X_t.cell 2 _ rfl
  have f_t3_1:=X_t.cell 3 _ rfl
  go_wp2_with fail
  refine (HF.out _ B1).mono ?_
  rintro e w2 ⟨rfl,b2⟩
  have B2:=bel_trans B1 b2
  clear f_t0_1 f_t1_1 f_t2_1 f_t3_1
  replace X_t:=X_t.below b2
  have f_t0_2:=X_t.cell 0 _ rfl
  have f_t1_2:=X_t.cell 1 _ rfl
  have f_t2_2:=X_t.cell 2 _ rfl
  have f_t3_2:=X_t.cell 3 _ rfl
  go_wp2_with fail
  go_ret
  exact ⟨rfl,B2⟩
end Go.Proofs.YtdlcimfifkhllaaGreat
