/-
  What edges.ofRead gathers: the edges of one outer read.
-/
import Derived.Test.YtdlcimfifkhllaaGreatCL0f
namespace Go.Proofs.YtdlcimfifkhllaaGreat
set_option maxRecDepth 100000
open Go.RowKit Go.Maps
set_option linter.unusedVariables false
attribute [local go_sem] ba_size
abbrev gatF (w:World):Value:=.func (.func 62) #[] #[.pointer (some ⟨w.heap.size,0,none⟩),.pointer (some ⟨w.heap.size+1,0,none⟩)]
theorem intsV_map10 (L:List Int):recV intV L=L.map (Value.int .i64):=by
 induction L with
 | nil=>rfl
 | cons x l ih=>rw [show x::l=[x]++l from rfl,recV_append,ih];rfl
theorem ver_cell {W:World} {B g n cc m:Nat} {V:List Nat} (hn:V.length=n) (h:W.ownsRow B 3 1 (.slice (some ⟨g,0,none⟩) n cc) n (recV intV (V.map Int.ofNat))) (hm:m < n):W.cell? ⟨g,m,none⟩=some (.int .i64 (vAt V m:Int)):=by
 have c:=h.cellAt m (by omega)
 rw [intsV_map10,List.map_map,List.getElem?_map,List.getElem?_eq_getElem (by omega)] at c
 rw [c]
 unfold vAt
 rw [List.getD_eq_getElem?_getD,List.getElem?_eq_getElem (by omega)]
 rfl
theorem own_some {W:World} {B e k n:Nat} {v:Value} {xs:List Value} (h:W.ownsRow B e k v n xs) (h0:0 < n):∃ g cc,v=.slice (some ⟨g,0,none⟩) n cc∧n≤cc∧cc≤maxLen:=by
 rcases h.2 with ⟨_,h0'⟩ | ⟨g,cap,cur,rfl,_,_,h1,h2,_⟩
 ·omega
 ·exact ⟨g,cap,rfl,h1,h2⟩
theorem vAt_mem (V:List Nat) (m:Nat) (hm:m < V.length):vAt V m∈V:=by
 unfold vAt
 rw [List.getD_eq_getElem?_getD,List.getElem?_eq_getElem hm]
 exact List.getElem_mem _
theorem g_read (h:List Ev) (V:List Nat) (i m:Nat):gEd h 2 (vAt V m) i=rEdge h V i m:=by unfold gEd rEdge tx;rfl
theorem g_over (h:List Ev) (V:List Nat) (i m:Nat) (hm:m < V.length):gEd h 3 i (vAt V m)=oEdge h V i m:=by
 unfold gEd oEdge tx
 by_cases e:(ev h i).2.1=(ev h (vAt V m)).2.1
 ·rw [if_pos e,if_neg (fun hh=>hh.2 e.symm)]
 ·rw [if_neg e,if_pos ⟨hm,fun hh=>e hh.symm⟩]
theorem o_none (h:List Ev) (V:List Nat) (i m:Nat) (hm:¬ m < V.length):oEdge h V i m=[]:=by
 unfold oEdge
 rw [if_neg (fun hh=>hm hh.1)]
set_option maxHeartbeats 4000000 in
theorem pofread_any (h:List Ev) (w:World) (a:Option Addr) (cap:Nat) (hT:IsEvs w (.slice a h.length cap) h) (v:Value) (L:List Ed) (W:World) (hS:GSt w (.slice a h.length cap) v L W) (vs:Value) (V:List Nat) (Bv:Nat) (hvs:W.ownsRow Bv 3 1 vs V.length (recV intV (V.map Int.ofNat))) (hV:∀ x∈V,x < h.length) (hVl:V.length≤300) (i:Nat) (hi:i < h.length) (hL:L.length≤900000) :
 Calls Tryz.prog 96 #[.slice a h.length cap,vs,.int .i64 (i:Int),gatF w] W fun e W'=>GRes w (.slice a h.length cap) W (L++rdEdges h V i) e W':=by
 have CG:=fun (k:Int) (p q:Nat) hp hq L' hL' v' W' hS'=>pgather_any h w a cap hT v' L' W' hS' k p q hp hq hL'
 have BW:Below W.heap.size W ((W.alloc (.cells #[.slice a h.length cap] 22)).alloc (.cells #[.int .i64 (i:Int)] 3)):=((Below.refl _ W).alloc (Nat.le_refl _) _).alloc (by simp) _
 have hS2:=hS.bel BW
 have X0:=(Boxed.new W 22 (.slice a h.length cap)).alloc (.cells #[.int .i64 (i:Int)] 3)
 have X1:=Boxed.new (W.alloc (.cells #[.slice a h.length cap] 22)) 3 (.int .i64 (i:Int))
 rw [World.size_alloc] at X1
 have hv2:=owns_below hvs BW
 have CI:=pidx_any h (.slice a h.length cap) vs V _ (hT.below hS2.below) W.heap.size (W.heap.size+1) i hi hV (IsRec.own intV_len (by omega) hv2 (by omega)) X0 X1
 obtain ⟨a',cap',e1,h1,h2,h3,HC⟩:=hT.reads
 obtain ⟨rfl,rfl⟩:a'=a∧cap'=cap:=by simpa [eq_comm] using e1
 clear e1
 obtain ⟨bb,off,rfl,HQ⟩:=HC.out (by omega)
 have HI:Hid (i < h.length):=hi
 obtain ⟨n,hn⟩:∃ n,V.length=n:=⟨_,rfl⟩
 have HN:Hid (V.length=n):=hn
 have HVV:Hid (∀ m,m < n→vAt V m < h.length):=fun m hm=>hV _ (vAt_mem V m (by omega))
 rw [hn] at hv2 hVl
 obtain ⟨n1,hn1⟩:∃ n1,h.length=n1:=⟨_,rfl⟩
 have HN1:Hid (h.length=n1):=hn1
 rw [hn1] at CI CG hS hS2 X0 X1 h1 h3 hi BW hv2 ⊢
 clear hn1 hvs hV HC hT
 have ji:(i:Int) < (n1:Int):=by omega
 unfold rdEdges
 cases hva:verAt h V i with
 | none =>
   rw [hva] at CI
   simp only [oI] at CI ⊢
   by_cases hv0:(ev h i).2.2.2=[]
   ·rw [if_pos hv0]
    have HV0:Hid ((ev h i).2.2.2=[]):=hv0
    clear hva hv0
    by_cases hp:0 < n
    ·rw [← g_over h V i 0 (by have:=HN.out;omega)]
     obtain ⟨g,cc,rfl,k1,k2⟩:=own_some hv2 hp
     have jw:IntKind.i64.wrap (-1+1)=0:=rfl
     have jn:(0:Int) < (n:Int):=by omega
     go_enter Tryz.func96,Tryz.ntmps96
     go_wp2_with fail
     refine CI.mono ?_
     rintro e3 w3 ⟨rfl,b3⟩
     have hS3:=hS2.bel b3
     replace X0:=boxed_below7 X0 b3
     replace X1:=boxed_below7 X1 b3
     have hv3:=owns_below hv2 b3
     clear CI
     obtain ⟨_,_,_,c3⟩:=HQ.out i HI.out _ hS3.below
     rw [HV0.out] at c3
     have x0:=X0.cell
     have x1:=X1.cell
     go_wp2_with fail
     refine wp_region_any (by kernel_rfl) ?_
     change wpAny _ _ _ _ _ _ _ (World.drew _)
     generalize hwd:World.drew _=wd
     have bd:Below w3.heap.size w3 wd:=by rw [← hwd];exact (Below.refl _ _).drew
     have hSd:=hS3.bel bd
     have hvd:=owns_below hv3 bd
     have Xd:=boxed_below7 X1 bd
     have k0:=ver_cell HN.out hvd hp
     have k9:=Xd.cell
     clear hwd
     refine any_of_C (C:=fun U=>U.cell? ⟨g,0,none⟩=some (.int .i64 (vAt V 0:Int))∧U.cell? ⟨W.heap.size+1,0,none⟩=some (.int .i64 (i:Int))) 6 _ _ _ _ ?_
     refine takeCC [6] (i:=0) (v:=gatF w) rfl (by kernel_rfl) (by kernel_rfl) (by kernel_rfl) (by kernel_rfl) (by kernel_rfl) (by kernel_rfl) (fun _ _ _ h=>h) (Or.inl ⟨by kernel_rfl,fun U hU=>by obtain ⟨r0,r1⟩:=hU;go_simp⟩) ?_
     refine takeCC [6] (i:=1) (v:=.int .i64 (i:Int)) rfl (by kernel_rfl) (by kernel_rfl) (by kernel_rfl) (by kernel_rfl) (by kernel_rfl) (by kernel_rfl) (fun _ _ _ h=>h) (Or.inl ⟨by kernel_rfl,fun U hU=>by obtain ⟨r0,r1⟩:=hU;go_simp⟩) ?_
     refine takeCC [4,5,6] (i:=2) (v:=.slice (some ⟨g,0,none⟩) n cc) rfl (by kernel_rfl) (by kernel_rfl) (by kernel_rfl) (by kernel_rfl) (by kernel_rfl) (by kernel_rfl) (fun _ _ _ h=>h) (Or.inl ⟨by kernel_rfl,fun U hU=>by obtain ⟨r0,r1⟩:=hU;go_simp⟩) ?_
     refine takeCC [4,5,6] (i:=3) (v:=.int .i64 0) rfl (by kernel_rfl) (by kernel_rfl) (by kernel_rfl) (by kernel_rfl) (by kernel_rfl) (by kernel_rfl) (fun _ _ _ h=>h) (Or.inl ⟨by kernel_rfl,fun U hU=>by obtain ⟨r0,r1⟩:=hU;go_simp⟩) ?_
     refine takeCC [5,6] (i:=4) (v:=.pointer (some ⟨g,0,none⟩)) rfl (by kernel_rfl) (by kernel_rfl) (by kernel_rfl) (by kernel_rfl) (by kernel_rfl) (by kernel_rfl) (fun _ _ _ h=>h) (Or.inl ⟨by kernel_rfl,fun U hU=>by obtain ⟨r0,r1⟩:=hU;go_simp⟩) ?_
     refine takeCC [6] (i:=5) (v:=.int .i64 (vAt V 0:Int)) rfl (by kernel_rfl) (by kernel_rfl) (by kernel_rfl) (by kernel_rfl) (by kernel_rfl) (by kernel_rfl) (fun _ _ _ h=>h) (Or.inl ⟨by kernel_rfl,fun U hU=>by obtain ⟨r0,r1⟩:=hU;go_simp⟩) ?_
     refine lastC (by kernel_rfl) (by kernel_rfl) ⟨k0,k9⟩ (of_decide_eq_true (by kernel_rfl)) ?_
     refine any_seqI [6] [_] _ _ _ rfl (by kernel_rfl) ?_
     go_wp2_with fail
     refine (CG 3 i (vAt V 0) hi (by have:=HVV.out 0 hp;rw [HN1.out] at this;exact this) L (by omega) _ _ hSd).mono ?_
     rintro e4 w4 ⟨rfl,fr4,v4,hS4⟩
     go_wp2_with fail
     go_end0
     exact ⟨rfl,((FrG.of_below BW).trans (FrG.of_below b3)).trans ((FrG.of_below bd).trans fr4),v4,hS4⟩
    ·rw [o_none h V i 0 (by have:=HN.out;omega),List.append_nil]
     obtain ⟨ad,cc,rfl⟩:=own_shape hv2
     have jw:IntKind.i64.wrap (-1+1)=0:=rfl
     obtain rfl:n=0:=by omega
     go_enter Tryz.func96,Tryz.ntmps96
     go_wp2_with fail
     refine CI.mono ?_
     rintro e3 w3 ⟨rfl,b3⟩
     have hS3:=hS2.bel b3
     replace X0:=boxed_below7 X0 b3
     replace X1:=boxed_below7 X1 b3
     have hv3:=owns_below hv2 b3
     clear CI
     obtain ⟨_,_,_,c3⟩:=HQ.out i HI.out _ hS3.below
     rw [HV0.out] at c3
     have x0:=X0.cell
     have x1:=X1.cell
     go_wp2_with fail
     go_end0
     exact ⟨rfl,(FrG.of_below BW).trans (FrG.of_below b3),v,hS3⟩
   ·rw [if_neg hv0,List.append_nil]
    obtain ⟨y,hy⟩:∃ y,(ev h i).2.2.2=y:=⟨_,rfl⟩
    rw [hy] at hv0
    have HY:Hid ((ev h i).2.2.2=y):=hy
    have ne:=ne_nil7 y hv0
    have ne2:(y==[])=false:=beq_eq_false_iff_ne.2 hv0
    have ne3:(y != [])=true:=bne_iff_ne.2 hv0
    clear hva hy hv0
    obtain ⟨ad,cc,rfl⟩:=own_shape hv2
    go_enter Tryz.func96,Tryz.ntmps96
    go_wp2_with fail
    refine CI.mono ?_
    rintro e3 w3 ⟨rfl,b3⟩
    have hS3:=hS2.bel b3
    replace X0:=boxed_below7 X0 b3
    replace X1:=boxed_below7 X1 b3
    have hv3:=owns_below hv2 b3
    clear CI
    obtain ⟨_,_,_,c3⟩:=HQ.out i HI.out _ hS3.below
    rw [HY.out] at c3
    have x0:=X0.cell
    have x1:=X1.cell
    go_wp2_with fail
    go_end0
    exact ⟨rfl,(FrG.of_below BW).trans (FrG.of_below b3),v,hS3⟩
 | some m =>
   rw [hva] at CI
   simp only [oI] at CI ⊢
   have hm:m < n:=by rw [verAt_is] at hva;have:=((fi_some _ _ _).1 hva).1;omega
   clear hva
   obtain ⟨g,cc,rfl,k1,k2⟩:=own_some hv2 (by omega)
   have jm:¬ (m:Int) < 0:=by omega
   have jm2:(m:Int) < (n:Int):=by omega
   have jw:IntKind.i64.wrap ((m:Int)+1)=(m:Int)+1:=by rw [IntKind.wrap_i64];omega
   rw [← List.append_assoc,← g_read h V i m]
   by_cases hp:m+1 < n
   ·rw [← g_over h V i (m+1) (by have:=HN.out;omega)]
    have jn:(m:Int)+1 < (n:Int):=by omega
    have jt:((m:Int)+1).toNat=m+1:=by omega
    have jn0:¬ (m:Int)+1 < 0:=by omega
    go_enter Tryz.func96,Tryz.ntmps96
    go_wp2_with fail
    refine CI.mono ?_
    rintro e3 w3 ⟨rfl,b3⟩
    have hS3:=hS2.bel b3
    replace X0:=boxed_below7 X0 b3
    replace X1:=boxed_below7 X1 b3
    have hv3:=owns_below hv2 b3
    clear CI
    go_wp2_with fail
    refine wp_region_any (by kernel_rfl) ?_
    change wpAny _ _ _ _ _ _ _ (World.drew _)
    generalize hwd:World.drew _=wd
    have bd:Below w3.heap.size w3 wd:=by rw [← hwd];exact (Below.refl _ _).drew
    have hSd:=hS3.bel bd
    have hvd:=owns_below hv3 bd
    have Xd:=boxed_below7 X1 bd
    have k0:=ver_cell HN.out hvd hm
    have k9:=Xd.cell
    clear hwd
    refine any_of_C (C:=fun U=>U.cell? ⟨g,m,none⟩=some (.int .i64 (vAt V m:Int))∧U.cell? ⟨W.heap.size+1,0,none⟩=some (.int .i64 (i:Int))) 6 _ _ _ _ ?_
    refine takeCC [6] (i:=0) (v:=gatF w) rfl (by kernel_rfl) (by kernel_rfl) (by kernel_rfl) (by kernel_rfl) (by kernel_rfl) (by kernel_rfl) (fun _ _ _ h=>h) (Or.inl ⟨by kernel_rfl,fun U hU=>by obtain ⟨r0,r1⟩:=hU;go_simp⟩) ?_
    refine takeCC [3,4,6] (i:=1) (v:=.slice (some ⟨g,0,none⟩) n cc) rfl (by kernel_rfl) (by kernel_rfl) (by kernel_rfl) (by kernel_rfl) (by kernel_rfl) (by kernel_rfl) (fun _ _ _ h=>h) (Or.inl ⟨by kernel_rfl,fun U hU=>by obtain ⟨r0,r1⟩:=hU;go_simp⟩) ?_
    refine takeCC [3,4,6] (i:=2) (v:=.int .i64 (m:Int)) rfl (by kernel_rfl) (by kernel_rfl) (by kernel_rfl) (by kernel_rfl) (by kernel_rfl) (by kernel_rfl) (fun _ _ _ h=>h) (Or.inl ⟨by kernel_rfl,fun U hU=>by obtain ⟨r0,r1⟩:=hU;go_simp⟩) ?_
    refine takeCC [4,6] (i:=3) (v:=.pointer (some ⟨g,m,none⟩)) rfl (by kernel_rfl) (by kernel_rfl) (by kernel_rfl) (by kernel_rfl) (by kernel_rfl) (by kernel_rfl) (fun _ _ _ h=>h) (Or.inl ⟨by kernel_rfl,fun U hU=>by obtain ⟨r0,r1⟩:=hU;go_simp⟩) ?_
    refine takeCC [6] (i:=4) (v:=.int .i64 (vAt V m:Int)) rfl (by kernel_rfl) (by kernel_rfl) (by kernel_rfl) (by kernel_rfl) (by kernel_rfl) (by kernel_rfl) (fun _ _ _ h=>h) (Or.inl ⟨by kernel_rfl,fun U hU=>by obtain ⟨r0,r1⟩:=hU;go_simp⟩) ?_
    refine takeCC [6] (i:=5) (v:=.int .i64 (i:Int)) rfl (by kernel_rfl) (by kernel_rfl) (by kernel_rfl) (by kernel_rfl) (by kernel_rfl) (by kernel_rfl) (fun _ _ _ h=>h) (Or.inl ⟨by kernel_rfl,fun U hU=>by obtain ⟨r0,r1⟩:=hU;go_simp⟩) ?_
    refine lastC (by kernel_rfl) (by kernel_rfl) ⟨k0,k9⟩ (of_decide_eq_true (by kernel_rfl)) ?_
    refine any_seqI [6] [_] _ _ _ rfl (by kernel_rfl) ?_
    go_wp2_with fail
    refine (CG 2 (vAt V m) i (by have:=HVV.out m hm;rw [HN1.out] at this;exact this) hi L (by omega) _ _ hSd).mono ?_
    rintro e4 w4 ⟨rfl,fr4,v4,hS4⟩
    replace X1:=fr4.boxed Xd (by decide) (by decide)
    have hv4:=fr4.owns hvd (by decide) (by decide)
    clear k0 k9 hvd Xd hSd
    go_wp2_with fail
    refine wp_region_any (by kernel_rfl) ?_
    change wpAny _ _ _ _ _ _ _ (World.drew _)
    generalize hwd:World.drew _=wd
    have be:Below w4.heap.size w4 wd:=by rw [← hwd];exact (Below.refl _ _).drew
    have hSd:=hS4.bel be
    have hvd:=owns_below hv4 be
    have Xd:=boxed_below7 X1 be
    have k0:=ver_cell HN.out hvd hp
    have k9:=Xd.cell
    clear hwd
    refine any_of_C (C:=fun U=>U.cell? ⟨g,(m+1),none⟩=some (.int .i64 (vAt V (m+1):Int))∧U.cell? ⟨W.heap.size+1,0,none⟩=some (.int .i64 (i:Int))) 6 _ _ _ _ ?_
    refine takeCC [6] (i:=0) (v:=gatF w) rfl (by kernel_rfl) (by kernel_rfl) (by kernel_rfl) (by kernel_rfl) (by kernel_rfl) (by kernel_rfl) (fun _ _ _ h=>h) (Or.inl ⟨by kernel_rfl,fun U hU=>by obtain ⟨r0,r1⟩:=hU;go_simp⟩) ?_
    refine takeCC [6] (i:=1) (v:=.int .i64 (i:Int)) rfl (by kernel_rfl) (by kernel_rfl) (by kernel_rfl) (by kernel_rfl) (by kernel_rfl) (by kernel_rfl) (fun _ _ _ h=>h) (Or.inl ⟨by kernel_rfl,fun U hU=>by obtain ⟨r0,r1⟩:=hU;go_simp⟩) ?_
    refine takeCC [4,5,6] (i:=2) (v:=.slice (some ⟨g,0,none⟩) n cc) rfl (by kernel_rfl) (by kernel_rfl) (by kernel_rfl) (by kernel_rfl) (by kernel_rfl) (by kernel_rfl) (fun _ _ _ h=>h) (Or.inl ⟨by kernel_rfl,fun U hU=>by obtain ⟨r0,r1⟩:=hU;go_simp⟩) ?_
    refine takeCC [4,5,6] (i:=3) (v:=.int .i64 ((m:Int)+1)) rfl (by kernel_rfl) (by kernel_rfl) (by kernel_rfl) (by kernel_rfl) (by kernel_rfl) (by kernel_rfl) (fun _ _ _ h=>h) (Or.inl ⟨by kernel_rfl,fun U hU=>by obtain ⟨r0,r1⟩:=hU;go_simp⟩) ?_
    refine takeCC [5,6] (i:=4) (v:=.pointer (some ⟨g,m+1,none⟩)) rfl (by kernel_rfl) (by kernel_rfl) (by kernel_rfl) (by kernel_rfl) (by kernel_rfl) (by kernel_rfl) (fun _ _ _ h=>h) (Or.inl ⟨by kernel_rfl,fun U hU=>by obtain ⟨r0,r1⟩:=hU;go_simp⟩) ?_
    refine takeCC [6] (i:=5) (v:=.int .i64 (vAt V (m+1):Int)) rfl (by kernel_rfl) (by kernel_rfl) (by kernel_rfl) (by kernel_rfl) (by kernel_rfl) (by kernel_rfl) (fun _ _ _ h=>h) (Or.inl ⟨by kernel_rfl,fun U hU=>by obtain ⟨r0,r1⟩:=hU;go_simp⟩) ?_
    refine lastC (by kernel_rfl) (by kernel_rfl) ⟨k0,k9⟩ (of_decide_eq_true (by kernel_rfl)) ?_
    refine any_seqI [6] [_] _ _ _ rfl (by kernel_rfl) ?_
    go_wp2_with fail
    refine (CG 3 i (vAt V (m+1)) hi (by have:=HVV.out (m+1) hp;rw [HN1.out] at this;exact this) _ (by have:=gEd_len h 2 (vAt V m) i;rw [List.length_append];omega) _ _ hSd).mono ?_
    rintro e5 w5 ⟨rfl,fr5,v5,hS5⟩
    go_wp2_with fail
    go_end0
    exact ⟨rfl,(((FrG.of_below BW).trans (FrG.of_below b3)).trans ((FrG.of_below bd).trans fr4)).trans ((FrG.of_below be).trans fr5),v5,hS5⟩
   ·rw [o_none h V i (m+1) (by have:=HN.out;omega),List.append_nil]
    have jn:¬ (m:Int)+1 < (n:Int):=by omega
    go_enter Tryz.func96,Tryz.ntmps96
    go_wp2_with fail
    refine CI.mono ?_
    rintro e3 w3 ⟨rfl,b3⟩
    have hS3:=hS2.bel b3
    replace X0:=boxed_below7 X0 b3
    replace X1:=boxed_below7 X1 b3
    have hv3:=owns_below hv2 b3
    clear CI
    go_wp2_with fail
    refine wp_region_any (by kernel_rfl) ?_
    change wpAny _ _ _ _ _ _ _ (World.drew _)
    generalize hwd:World.drew _=wd
    have bd:Below w3.heap.size w3 wd:=by rw [← hwd];exact (Below.refl _ _).drew
    have hSd:=hS3.bel bd
    have hvd:=owns_below hv3 bd
    have Xd:=boxed_below7 X1 bd
    have k0:=ver_cell HN.out hvd hm
    have k9:=Xd.cell
    clear hwd
    refine any_of_C (C:=fun U=>U.cell? ⟨g,m,none⟩=some (.int .i64 (vAt V m:Int))∧U.cell? ⟨W.heap.size+1,0,none⟩=some (.int .i64 (i:Int))) 6 _ _ _ _ ?_
    refine takeCC [6] (i:=0) (v:=gatF w) rfl (by kernel_rfl) (by kernel_rfl) (by kernel_rfl) (by kernel_rfl) (by kernel_rfl) (by kernel_rfl) (fun _ _ _ h=>h) (Or.inl ⟨by kernel_rfl,fun U hU=>by obtain ⟨r0,r1⟩:=hU;go_simp⟩) ?_
    refine takeCC [3,4,6] (i:=1) (v:=.slice (some ⟨g,0,none⟩) n cc) rfl (by kernel_rfl) (by kernel_rfl) (by kernel_rfl) (by kernel_rfl) (by kernel_rfl) (by kernel_rfl) (fun _ _ _ h=>h) (Or.inl ⟨by kernel_rfl,fun U hU=>by obtain ⟨r0,r1⟩:=hU;go_simp⟩) ?_
    refine takeCC [3,4,6] (i:=2) (v:=.int .i64 (m:Int)) rfl (by kernel_rfl) (by kernel_rfl) (by kernel_rfl) (by kernel_rfl) (by kernel_rfl) (by kernel_rfl) (fun _ _ _ h=>h) (Or.inl ⟨by kernel_rfl,fun U hU=>by obtain ⟨r0,r1⟩:=hU;go_simp⟩) ?_
    refine takeCC [4,6] (i:=3) (v:=.pointer (some ⟨g,m,none⟩)) rfl (by kernel_rfl) (by kernel_rfl) (by kernel_rfl) (by kernel_rfl) (by kernel_rfl) (by kernel_rfl) (fun _ _ _ h=>h) (Or.inl ⟨by kernel_rfl,fun U hU=>by obtain ⟨r0,r1⟩:=hU;go_simp⟩) ?_
    refine takeCC [6] (i:=4) (v:=.int .i64 (vAt V m:Int)) rfl (by kernel_rfl) (by kernel_rfl) (by kernel_rfl) (by kernel_rfl) (by kernel_rfl) (by kernel_rfl) (fun _ _ _ h=>h) (Or.inl ⟨by kernel_rfl,fun U hU=>by obtain ⟨r0,r1⟩:=hU;go_simp⟩) ?_
    refine takeCC [6] (i:=5) (v:=.int .i64 (i:Int)) rfl (by kernel_rfl) (by kernel_rfl) (by kernel_rfl) (by kernel_rfl) (by kernel_rfl) (by kernel_rfl) (fun _ _ _ h=>h) (Or.inl ⟨by kernel_rfl,fun U hU=>by obtain ⟨r0,r1⟩:=hU;go_simp⟩) ?_
    refine lastC (by kernel_rfl) (by kernel_rfl) ⟨k0,k9⟩ (of_decide_eq_true (by kernel_rfl)) ?_
    refine any_seqI [6] [_] _ _ _ rfl (by kernel_rfl) ?_
    go_wp2_with fail
    refine (CG 2 (vAt V m) i (by have:=HVV.out m hm;rw [HN1.out] at this;exact this) hi L (by omega) _ _ hSd).mono ?_
    rintro e4 w4 ⟨rfl,fr4,v4,hS4⟩
    replace X1:=fr4.boxed Xd (by decide) (by decide)
    have hv4:=fr4.owns hvd (by decide) (by decide)
    clear k0 k9 hvd Xd hSd
    go_wp2_with fail
    go_end0
    exact ⟨rfl,((FrG.of_below BW).trans (FrG.of_below b3)).trans ((FrG.of_below bd).trans fr4),v4,hS4⟩
end Go.Proofs.YtdlcimfifkhllaaGreat
