/-
  What judge.found answers, of a well formed history. What judge.Judge answers. Package judge keeps its word.
-/
import Derived.Test.YtiihegldhnlleaaGreatCP11Rg
import Derived.Test.YtiihegldhnlleaaGreatCP12Same
namespace Go.Proofs.YtiihegldhnlleaaGreat
set_option maxRecDepth 100000
open Go.RowKit
set_option linter.unusedVariables false
attribute [local go_sem] ba_size
theorem IsRec.setBool {α:Type} {sz:Nat} {enc:α→List Value} {W:World} {v:Value} {L:List α} {B j:Nat} {x:Bool} (h:IsRec sz enc W v L) (hc:W.cell? ⟨B,j,none⟩=some (.bool x)) (hn:∀ y∈L,∀ u∈enc y,∀ b,u≠.bool b) (u:Value):IsRec sz enc (W.setCell ⟨B,j,none⟩ u) v L:=by
 obtain ⟨a,n,cap,hv,h1,h2,h3,h4,h6⟩:=h
 refine ⟨a,n,cap,hv,h1,h2,h3,h4,?_⟩
 rcases h6 with h6 | ⟨b,off,ha,hlt,hcc⟩
 ·exact .inl h6
 ·refine .inr ⟨b,off,ha,by simpa using hlt,fun i hi k y hy=>?_⟩
  have q:=hcc i hi k y hy
  rw [World.cell?_setCell_other]
  ·exact q
  ·intro e
   rw [← e,hc] at q
   exact hn L[i] (List.getElem_mem hi) y (List.mem_of_getElem? hy) x (Option.some.inj q).symm
theorem IsSts.setBool {W:World} {v:Value} {L:List Stp} {B j:Nat} {x:Bool} (h:IsSts W v L) (hc:W.cell? ⟨B,j,none⟩=some (.bool x)) (u:Value):IsSts (W.setCell ⟨B,j,none⟩ u) v L:=by
 obtain ⟨L',hr,hs⟩:=h
 have hE:∀ (x':SVt) (s:Stp),StAt W x' s→StAt (W.setCell ⟨B,j,none⟩ u) x' s:=fun x' s h=>⟨h.from_,h.to_,h.eds.setBool hc (fun y _ u' hu b=>by
  unfold edV at hu
  simp only [List.mem_cons,List.not_mem_nil,or_false] at hu
  rcases hu with rfl | rfl | rfl | rfl | rfl<;>simp) u⟩
 refine ⟨L',hr.setBool hc (fun y hy u' hu b=>?_) u,hs.1,fun i x' s h1 h2=>hE x' s (hs.2 i x' s h1 h2)⟩
 obtain ⟨i,hi,rfl⟩:=List.getElem_of_mem hy
 have hi':i < L.length:=by rw [← hs.1];exact hi
 obtain ⟨_,_,_,hv,_⟩:=(hs.2 i _ _ (List.getElem?_eq_getElem hi) (List.getElem?_eq_getElem hi')).eds
 unfold stV at hu
 simp only [List.mem_cons,List.not_mem_nil,or_false] at hu
 rcases hu with rfl | rfl | rfl
 ·simp
 ·simp
 ·rw [hv];simp
theorem owns_bel12 {W W':World} {B e k n:Nat} {v:Value} {xs:List Value} (h:W.ownsRow B e k v n xs) (hb:Below W.heap.size W W'):W'.ownsRow B e k v n xs:=h.kept (grown_below8 none hb) (by cases v.ownBlock<;>simp)
def FdRes (w:World) (r:Vd) (e:Ending) (w':World):Prop:=∃ vo vr,e=.returned (.agg (vdC r vo vr))∧Below w.heap.size w w' ∧
 w'.ownsRow w.heap.size 3 1 vo r.2.2.1.length (recV intV r.2.2.1)∧w'.ownsRow w.heap.size 54 5 vr r.2.2.2.2.length (recV edV r.2.2.2.2)
structure Fd12 (w W:World) (cr cv:Array Value):Prop where
 r:SBox W w.heap.size 28 cr
 v:SBox W (w.heap.size+1) 28 cv
 b:Below w.heap.size w W
theorem Fd12.below {w W W':World} {cr cv:Array Value} (h:Fd12 w W cr cv) (hb:Below W.heap.size W W'):Fd12 w W' cr cv:=⟨h.r.below hb,h.v.below hb,bel_trans h.b hb⟩
theorem Fd12.new (w:World) (level:Int):Fd12 w ((w.alloc (.cells #[.int .i64 0,.bool false,.slice none 0 0,.int .i64 0,.int .i64 0,.int .i64 0,.slice none 0 0] 28)).alloc (.cells #[.int .i64 level,.bool false,.slice none 0 0,.int .i64 0,.int .i64 0,.int .i64 0,.slice none 0 0] 28)) #[.int .i64 0,.bool false,.slice none 0 0,.int .i64 0,.int .i64 0,.int .i64 0,.slice none 0 0] #[.int .i64 level,.bool false,.slice none 0 0,.int .i64 0,.int .i64 0,.int .i64 0,.slice none 0 0]:=by
 have R0:=(SBox.new w 28 #[.int .i64 0,.bool false,.slice none 0 0,.int .i64 0,.int .i64 0,.int .i64 0,.slice none 0 0]).alloc (.cells #[.int .i64 level,.bool false,.slice none 0 0,.int .i64 0,.int .i64 0,.int .i64 0,.slice none 0 0] 28)
 have V0:=SBox.new (w.alloc (.cells #[.int .i64 0,.bool false,.slice none 0 0,.int .i64 0,.int .i64 0,.int .i64 0,.slice none 0 0] 28)) 28 #[.int .i64 level,.bool false,.slice none 0 0,.int .i64 0,.int .i64 0,.int .i64 0,.slice none 0 0]
 rw [World.size_alloc] at V0
 exact ⟨R0,V0,((Below.refl _ w).alloc (Nat.le_refl _) _).alloc (by simp) _⟩
theorem wf_few12 {h:List Ev} (hw:WF h):∀ x∈h,0≤x.2.1∧x.2.1≤99:=by
 intro x hx
 obtain ⟨i,hi,rfl⟩:=List.getElem_of_mem hx
 have:=wf_low hw i hi
 rw [ev_get h i hi] at this
 omega
theorem nodes_ok12 (h:List Ev):∀ x∈nodeL h,okS x:=by
 intro x hx
 unfold nodeL at hx
 rw [nd_mem] at hx
 unfold okS
 omega
theorem steps_ok12 {h:List Ev} (hw:WF h) (level:Int):∀ x∈stepsL level (edgesL h),goodSt x:=by
 intro s hs
 obtain ⟨l1,l2⟩:=steps_low hw level s hs
 refine ⟨?_,?_,?_⟩
 ·unfold okS;omega
 ·unfold okS;omega
 ·rcases steps_cases level (edgesL h) s hs with ⟨e,_,_,rfl⟩ | ⟨_,e,_,g,_,hh⟩
  ·simp [one1]
  ·obtain ⟨_,_,_,rfl⟩:=hh
   simp [two2]
set_option maxHeartbeats 8000000 in
theorem pfound_all (h:List Ev) (v:Value) (w:World) (level:Int) (hT:IsEvs w v h) (hG:∀ x∈h,goodE x) (hl:h.length≤120) (hw:WF h) (b:Bd) (tb:Bool) (hfp:firstP h=(b,tb)) (od:Option (List Int)) (ho:orderL (nodeL h) (stepsL level (edgesL h))=od) :
 Calls Tryz.prog 26 #[v,.int .i64 level] w fun e w'=>FdRes w (if tb=true then (level,false,[],b,[]) else (level,od.isSome,od.getD [],(0,0,0),flatL ((ringL (stepsL level (edgesL h))).getD []))) e w':=by
 obtain ⟨l1,l2,l3,l4⟩:=wf_bounds hw level
 have CF:=fun W (hW:Below w.heap.size w W)=>pfirst9_any h v W (hT.below hW)
 have CA:=fun W (hW:Below w.heap.size w W)=>pall10_any h v W (hT.below hW) hG (by omega)
 have CN:=fun W (hW:Below w.heap.size w W)=>pnodes10_any h v W (hT.below hW) hG ⟨wf_few12 hw,hl⟩
 have CS:=fun ve W (hE:IsEds W ve (edgesL h))=>psteps10_any level (edgesL h) ve W hE (by omega)
 have CO:=fun vn vs W (hN:IsInts W vn (nodeL h)) (hS:Shp vn) (hs:IsSts W vs (stepsL level (edgesL h))) (hS2:Shp vs)=>porder11_any (nodeL h) (stepsL level (edgesL h)) vn vs W hN hS (nodes_ok12 h) hs hS2 (steps_ok12 hw level) (by omega) (by omega)
 have CR:=fun vs W (hs:IsSts W vs (stepsL level (edgesL h))) (hS2:Shp vs)=>pring11_any (stepsL level (edgesL h)) vs W hs hS2 (steps_ok12 hw level) (by omega)
 rw [hfp] at CF
 obtain ⟨a,cap,rfl,_⟩:=hT.some_at
 obtain ⟨n,hn⟩:∃ n,h.length=n:=⟨_,rfl⟩
 rw [ho] at CO
 clear hfp
 obtain ⟨b0,b1,b2⟩:=b
 obtain ⟨rg,hrg⟩:∃ rg,ringL (stepsL level (edgesL h))=rg:=⟨_,rfl⟩
 have hrl:Hid ((rg.getD []).length≤262656):=by
  show _≤_
  cases hr:rg with
  | none=>simp
  | some r0 =>
    rw [hr] at hrg
    rcases ringL_few _ r0 hrg with h4 | h4
    ·simp only [Option.getD_some];omega
    ·rw [h4] at hrg;cases hrg
 rw [hrg] at CR l4 ⊢
 clear ho hrg
 simp only [hn] at CF CA CN ⊢
 clear hT hn
 go_enter Tryz.func26,Tryz.ntmps26
 go_wp2_with fail
 have H0:=Fd12.new w level
 generalize (w.alloc (.cells #[.int .i64 0,.bool false,.slice none 0 0,.int .i64 0,.int .i64 0,.int .i64 0,.slice none 0 0] 28)).alloc (.cells #[.int .i64 level,.bool false,.slice none 0 0,.int .i64 0,.int .i64 0,.int .i64 0,.slice none 0 0] 28)=W0 at H0 ⊢
 refine (CF _ H0.b).mono ?_
 rintro e1 w1 ⟨rfl,b1'⟩
 have H1:=H0.below b1'
 clear H0 b1'
 go_wp2_with fail
 have D2:=SBox.new w1 25 #[.int .i64 b0,.int .i64 b1,.int .i64 b2]
 have H2:=H1.below ((Below.refl _ w1).alloc (Nat.le_refl _) (.cells #[.int .i64 b0,.int .i64 b1,.int .i64 b2] 25))
 generalize w1.alloc (.cells #[.int .i64 b0,.int .i64 b1,.int .i64 b2] 25)=w2 at D2 H2 ⊢
 refine (CA _ H2.b).mono ?_
 rintro e3 w3 ⟨ve,rfl,b3,o3⟩
 have H3:=H2.below b3
 have D3:=D2.below b3
 have T3:=IsRec.own (L:=edgesL h) edV_len (by omega) o3 (by omega)
 clear H2 D2 o3
 go_wp2_with fail
 refine (CS _ _ T3).mono ?_
 rintro e4 w4 ⟨vs,Ls,rfl,b4,o4,s4⟩
 have H4:=H3.below b4
 have D4:=D3.below b4
 have T4:=IsSts.own o4 s4 (by rw [s4.1];omega)
 have S4:=Shp.own o4
 clear H3 D3 o4 s4 T3 b3
 go_wp2_with fail
 refine (CN _ H4.b).mono ?_
 rintro e5 w5 ⟨vn,rfl,b5,o5⟩
 have H5:=H4.below b5
 have D5:=D4.below b5
 have T5:=ints_own (l:=nodeL h) o5 (by omega)
 have S5:=Shp.own o5
 have T45:=T4.below b5
 clear H4 D4 o5 b4 T4
 go_wp2_with fail
 refine (CO _ _ _ T5 S5 T45 S4).mono ?_
 rintro e6 w6 ⟨vo,rfl,b6,o6⟩
 have H6:=H5.below b6
 have D6:=D5.below b6
 have T46:=T45.below b6
 have hB5:w.heap.size≤w5.heap.size:=H5.b.size
 clear H5 D5 T5 S5 T45 b5
 go_wp2_with fail
 refine (CR _ _ T46 S4).mono ?_
 rintro e7 w7 ⟨vr,Lr,rfl,b7,o7,s7⟩
 have H7:=H6.below b7
 have D7:=D6.below b7
 cases tb with
 | true =>
   clear H6 D6 T46 b6 o6 o7 s7 b7
   have d0:=D7.cell 0 _ rfl
   have d1:=D7.cell 1 _ rfl
   have d2:=D7.cell 2 _ rfl
   have v0:=H7.v.cell 0 _ rfl
   have g0:=H7.v.frozen 0
   have r0:=H7.r.cell 0 _ rfl
   have k0:=H7.r.frozen 0
   have v1:=H7.v.cell 1 _ rfl
   have g1:=H7.v.frozen 1
   have r1:=H7.r.cell 1 _ rfl
   have k1:=H7.r.frozen 1
   have v2:=H7.v.cell 2 _ rfl
   have g2:=H7.v.frozen 2
   have r2:=H7.r.cell 2 _ rfl
   have k2:=H7.r.frozen 2
   have v3:=H7.v.cell 3 _ rfl
   have g3:=H7.v.frozen 3
   have r3:=H7.r.cell 3 _ rfl
   have k3:=H7.r.frozen 3
   have v4:=H7.v.cell 4 _ rfl
   have g4:=H7.v.frozen 4
   have r4:=H7.r.cell 4 _ rfl
   have k4:=H7.r.frozen 4
   have v5:=H7.v.cell 5 _ rfl
   have g5:=H7.v.frozen 5
   have r5:=H7.r.cell 5 _ rfl
   have k5:=H7.r.frozen 5
   have v6:=H7.v.cell 6 _ rfl
   have g6:=H7.v.frozen 6
   have r6:=H7.r.cell 6 _ rfl
   have k6:=H7.r.frozen 6
   go_wp2_with fail
   generalize hW:World.setCell _ _ _=W
   have R8:=((H7.r.other (w.heap.size+1) 3 (.int .i64 b0) (by omega)).other (w.heap.size+1) 4 (.int .i64 b1) (by omega)).other (w.heap.size+1) 5 (.int .i64 b2) (by omega)
   have B8:=((H7.b.setCell (p:=⟨w.heap.size+1,3,none⟩) (by simp) (.int .i64 b0)).setCell (p:=⟨w.heap.size+1,4,none⟩) (by simp) (.int .i64 b1)).setCell (p:=⟨w.heap.size+1,5,none⟩) (by simp) (.int .i64 b2)
   have RW:SBox W w.heap.size 28 #[.int .i64 level,.bool false,.slice none 0 0,.int .i64 b0,.int .i64 b1,.int .i64 b2,.slice none 0 0]:=by rw [← hW];exact SBox.put7 R8 _ _ _ _ _ _ _
   have BZ:Below w.heap.size w W:=by rw [← hW];exact bel_put7 B8 (Nat.le_refl _) _ _ _ _ _ _ _
   exact bodyPost_ret (v:=.agg #[.int .i64 level,.bool false,.slice none 0 0,.int .i64 b0,.int .i64 b1,.int .i64 b2,.slice none 0 0]) (results_row1 Tryz.results26 _ _ w.heap.size 28 _ (0,0) _ rfl RW Tryz.underlying28 rfl size_vd) rfl ⟨_,_,rfl,BZ,World.ownsRow_nil _ _ _ _,World.ownsRow_nil _ _ _ _⟩
 | false =>
   cases od with
   | some o =>
     have T7:=IsSts.own o7 s7 (by rw [s7.1];exact Nat.le_trans hrl.out (by omega))
     have o67:=owns_bel12 o6 b7
     clear H6 D6 T46 o6 o7 s7 D7
     have v1:=H7.v.cell 1 _ rfl
     have g1:=H7.v.frozen 1
     obtain ⟨oa,oc,rfl⟩:=own_shape12 o67
     go_wp2_with fail
     have H8:Fd12 w (w7.setCell ⟨w.heap.size+1,1,none⟩ (.bool true)) #[.int .i64 0,.bool false,.slice none 0 0,.int .i64 0,.int .i64 0,.int .i64 0,.slice none 0 0] #[.int .i64 level,.bool true,.slice none 0 0,.int .i64 0,.int .i64 0,.int .i64 0,.slice none 0 0]:=⟨H7.r.other _ _ _ (by omega),H7.v.set 1 _,H7.b.setCell (p:=⟨w.heap.size+1,1,none⟩) (by simp) _⟩
     have T8:=T7.setBool (H7.v.cell 1 _ rfl) (.bool true)
     have o8:(w7.setCell ⟨w.heap.size+1,1,none⟩ (.bool true)).ownsRow _ 3 1 _ _ _:=owns_keep7 o67 (.bool true) (block_not_row H7.v (by decide) o67)
     clear T7 o67 H7 v1 g1 b7
     generalize w7.setCell ⟨w.heap.size+1,1,none⟩ (.bool true)=w8 at H8 T8 o8 ⊢
     refine (pflat_any _ _ _ T8 (by omega)).mono ?_
     rintro e9 w9 ⟨vf,rfl,b9,o9⟩
     have H9:=H8.below b9
     have o89:=owns_bel12 o8 b9
     have hs8:=H8.b.size
     have hs5:=Lib.hid b6.size
     clear T8 o8
     obtain ⟨fa,fc,rfl⟩:=own_shape12 o9
     obtain ⟨fn,hfn⟩:∃ n,(flatL (rg.getD [])).length=n:=⟨_,rfl⟩
     have HFN:=Lib.hid hfn
     rw [hfn] at o9 ⊢
     clear hfn
     have v0:=H9.v.cell 0 _ rfl
     have g0:=H9.v.frozen 0
     have r0:=H9.r.cell 0 _ rfl
     have k0:=H9.r.frozen 0
     have v1:=H9.v.cell 1 _ rfl
     have g1:=H9.v.frozen 1
     have r1:=H9.r.cell 1 _ rfl
     have k1:=H9.r.frozen 1
     have v2:=H9.v.cell 2 _ rfl
     have g2:=H9.v.frozen 2
     have r2:=H9.r.cell 2 _ rfl
     have k2:=H9.r.frozen 2
     have v3:=H9.v.cell 3 _ rfl
     have g3:=H9.v.frozen 3
     have r3:=H9.r.cell 3 _ rfl
     have k3:=H9.r.frozen 3
     have v4:=H9.v.cell 4 _ rfl
     have g4:=H9.v.frozen 4
     have r4:=H9.r.cell 4 _ rfl
     have k4:=H9.r.frozen 4
     have v5:=H9.v.cell 5 _ rfl
     have g5:=H9.v.frozen 5
     have r5:=H9.r.cell 5 _ rfl
     have k5:=H9.r.frozen 5
     have v6:=H9.v.cell 6 _ rfl
     have g6:=H9.v.frozen 6
     have r6:=H9.r.cell 6 _ rfl
     have k6:=H9.r.frozen 6
     go_wp2_with fail
     generalize hW:World.setCell _ _ _=W
     have R8:=(H9.r.other (w.heap.size+1) 2 (.slice oa o.length oc) (by omega)).other (w.heap.size+1) 6 (.slice fa fn fc) (by omega)
     have B8:=(H9.b.setCell (p:=⟨w.heap.size+1,2,none⟩) (by simp) (.slice oa o.length oc)).setCell (p:=⟨w.heap.size+1,6,none⟩) (by simp) (.slice fa fn fc)
     have n1:=block_not_row H9.v (by decide) o89
     have n2:=block_not_row H9.v (by decide) o9
     have P1:=owns_keep7 (g:=w.heap.size+1) (j:=6) (owns_keep7 (g:=w.heap.size+1) (j:=2) o89 (.slice oa o.length oc) n1) (.slice fa fn fc) n1
     have P2:=owns_keep7 (g:=w.heap.size+1) (j:=6) (owns_keep7 (g:=w.heap.size+1) (j:=2) o9 (.slice oa o.length oc) n2) (.slice fa fn fc) n2
     have RW:SBox W w.heap.size 28 #[.int .i64 level,.bool true,.slice oa o.length oc,.int .i64 0,.int .i64 0,.int .i64 0,.slice fa fn fc]:=by rw [← hW];exact SBox.put7 R8 _ _ _ _ _ _ _
     have BZ:Below w.heap.size w W:=by rw [← hW];exact bel_put7 B8 (Nat.le_refl _) _ _ _ _ _ _ _
     have O1:W.ownsRow w.heap.size 3 1 (.slice oa o.length oc) o.length (recV intV o):=by rw [← hW];exact owns_put7 (owns_base12 P1 hB5) (block_not_row R8 (by decide) P1) _ _ _ _ _ _ _
     have O2:W.ownsRow w.heap.size 54 5 (.slice fa fn fc) fn (recV edV (flatL (rg.getD []))):=by rw [← hW];exact owns_put7 (owns_base12 P2 hs8) (block_not_row R8 (by decide) P2) _ _ _ _ _ _ _
     refine bodyPost_ret (v:=.agg #[.int .i64 level,.bool true,.slice oa o.length oc,.int .i64 0,.int .i64 0,.int .i64 0,.slice fa fn fc]) (results_row1 Tryz.results26 _ _ w.heap.size 28 _ (0,0) _ rfl RW Tryz.underlying28 rfl size_vd) rfl ⟨.slice oa o.length oc,.slice fa fn fc,rfl,BZ,O1,?_⟩
     show W.ownsRow w.heap.size 54 5 (.slice fa fn fc) (flatL (rg.getD [])).length (recV edV (flatL (rg.getD [])))
     rw [HFN.out]
     exact O2
   | none =>
     have T7:=IsSts.own o7 s7 (by rw [s7.1];exact Nat.le_trans hrl.out (by omega))
     have o67:=owns_bel12 o6 b7
     clear H6 D6 T46 o6 o7 s7 D7
     obtain ⟨oa,oc,rfl⟩:=own_shape12 o67
     go_wp2_with fail
     have H8:=H7
     have T8:=T7
     have o8:=o67
     clear T7 o67 H7 b7
     obtain ⟨w8,hw8⟩:∃ V,w7=V:=⟨_,rfl⟩
     rw [hw8] at H8 T8 o8 ⊢
     clear hw8
     refine (pflat_any _ _ _ T8 (by omega)).mono ?_
     rintro e9 w9 ⟨vf,rfl,b9,o9⟩
     have H9:=H8.below b9
     have o89:=owns_bel12 o8 b9
     have hs8:=H8.b.size
     have hs5:=Lib.hid b6.size
     clear T8 o8
     obtain ⟨fa,fc,rfl⟩:=own_shape12 o9
     obtain ⟨fn,hfn⟩:∃ n,(flatL (rg.getD [])).length=n:=⟨_,rfl⟩
     have HFN:=Lib.hid hfn
     rw [hfn] at o9 ⊢
     clear hfn
     have v0:=H9.v.cell 0 _ rfl
     have g0:=H9.v.frozen 0
     have r0:=H9.r.cell 0 _ rfl
     have k0:=H9.r.frozen 0
     have v1:=H9.v.cell 1 _ rfl
     have g1:=H9.v.frozen 1
     have r1:=H9.r.cell 1 _ rfl
     have k1:=H9.r.frozen 1
     have v2:=H9.v.cell 2 _ rfl
     have g2:=H9.v.frozen 2
     have r2:=H9.r.cell 2 _ rfl
     have k2:=H9.r.frozen 2
     have v3:=H9.v.cell 3 _ rfl
     have g3:=H9.v.frozen 3
     have r3:=H9.r.cell 3 _ rfl
     have k3:=H9.r.frozen 3
     have v4:=H9.v.cell 4 _ rfl
     have g4:=H9.v.frozen 4
     have r4:=H9.r.cell 4 _ rfl
     have k4:=H9.r.frozen 4
     have v5:=H9.v.cell 5 _ rfl
     have g5:=H9.v.frozen 5
     have r5:=H9.r.cell 5 _ rfl
     have k5:=H9.r.frozen 5
     have v6:=H9.v.cell 6 _ rfl
     have g6:=H9.v.frozen 6
     have r6:=H9.r.cell 6 _ rfl
     have k6:=H9.r.frozen 6
     go_wp2_with fail
     generalize hW:World.setCell _ _ _=W
     have R8:=(H9.r.other (w.heap.size+1) 2 (.slice oa 0 oc) (by omega)).other (w.heap.size+1) 6 (.slice fa fn fc) (by omega)
     have B8:=(H9.b.setCell (p:=⟨w.heap.size+1,2,none⟩) (by simp) (.slice oa 0 oc)).setCell (p:=⟨w.heap.size+1,6,none⟩) (by simp) (.slice fa fn fc)
     have n1:=block_not_row H9.v (by decide) o89
     have n2:=block_not_row H9.v (by decide) o9
     have P1:=owns_keep7 (g:=w.heap.size+1) (j:=6) (owns_keep7 (g:=w.heap.size+1) (j:=2) o89 (.slice oa 0 oc) n1) (.slice fa fn fc) n1
     have P2:=owns_keep7 (g:=w.heap.size+1) (j:=6) (owns_keep7 (g:=w.heap.size+1) (j:=2) o9 (.slice oa 0 oc) n2) (.slice fa fn fc) n2
     have RW:SBox W w.heap.size 28 #[.int .i64 level,.bool false,.slice oa 0 oc,.int .i64 0,.int .i64 0,.int .i64 0,.slice fa fn fc]:=by rw [← hW];exact SBox.put7 R8 _ _ _ _ _ _ _
     have BZ:Below w.heap.size w W:=by rw [← hW];exact bel_put7 B8 (Nat.le_refl _) _ _ _ _ _ _ _
     have O1:W.ownsRow w.heap.size 3 1 (.slice oa 0 oc) 0 (recV intV ([]:List Int)):=by rw [← hW];exact owns_put7 (owns_base12 P1 hB5) (block_not_row R8 (by decide) P1) _ _ _ _ _ _ _
     have O2:W.ownsRow w.heap.size 54 5 (.slice fa fn fc) fn (recV edV (flatL (rg.getD []))):=by rw [← hW];exact owns_put7 (owns_base12 P2 hs8) (block_not_row R8 (by decide) P2) _ _ _ _ _ _ _
     refine bodyPost_ret (v:=.agg #[.int .i64 level,.bool false,.slice oa 0 oc,.int .i64 0,.int .i64 0,.int .i64 0,.slice fa fn fc]) (results_row1 Tryz.results26 _ _ w.heap.size 28 _ (0,0) _ rfl RW Tryz.underlying28 rfl size_vd) rfl ⟨.slice oa 0 oc,.slice fa fn fc,rfl,BZ,O1,?_⟩
     show W.ownsRow w.heap.size 54 5 (.slice fa fn fc) (flatL (rg.getD [])).length (recV edV (flatL (rg.getD [])))
     rw [HFN.out]
     exact O2
theorem pfound_any (h:List Ev) (v:Value) (w:World) (level:Int) (hlv:level=1∨level=2) (hT:IsEvs w v h) (hG:∀ x∈h,goodE x) (hl:h.length≤120) (hw:WF h) :
 Calls Tryz.prog 26 #[v,.int .i64 level] w fun e w'=>FdRes w (judgeL h level).1 e w':=by
 have hf:=(formed_ok h).2 hw
 cases hb:badsL h with
 | cons b r =>
   rw [judge_bad h level hlv hf b r hb]
   exact pfound_all h v w level hT hG hl hw b true (by unfold firstP;rw [hb]) _ rfl
 | nil =>
   have hfp:firstP h=((0,0,0),false):=by unfold firstP;rw [hb]
   cases ho:orderL (nodeL h) (stepsL level (edgesL h)) with
   | some o =>
     rw [judge_order h level hlv hf hb o ho]
     have hr:ringL (stepsL level (edgesL h))=none:=(ring_iff _).2 ((order_good hw level).1 ⟨o,ho⟩)
     have:=pfound_all h v w level hT hG hl hw _ _ hfp _ ho
     rw [hr] at this
     exact this
   | none =>
     rw [judge_ring h level hlv hf hb ho]
     exact pfound_all h v w level hT hG hl hw _ _ hfp _ ho
set_option maxHeartbeats 4000000 in
theorem pjudge_any (h:List Ev) (v:Value) (w:World) (level:Int) (hT:IsEvs w v h) (hG:∀ x∈h,goodE x) (hl:h.length≤120) :
 Calls Tryz.prog 12 #[v,.int .i64 level] w fun e w'=>VRes w (judgeL h level) e w':=by
 have R0:=SBox.new w 28 #[.int .i64 0,.bool false,.slice none 0 0,.int .i64 0,.int .i64 0,.int .i64 0,.slice none 0 0]
 have B0:=(Below.refl w.heap.size w).alloc (Nat.le_refl _) (.cells #[.int .i64 0,.bool false,.slice none 0 0,.int .i64 0,.int .i64 0,.int .i64 0,.slice none 0 0] 28)
 have CF:=fun W (hW:Below w.heap.size w W)=>pformed8_any h v W (hT.below hW) hG
 by_cases hlv:level=1∨level=2
 ·by_cases hf:(formedL h).2=0
  ·have hw:=(formed_ok h).1 hf
   have CD:=fun W (hW:Below w.heap.size w W)=>pfound_any h v W level hlv (hT.below hW) hG hl hw
   have hj:judgeL h level=((judgeL h level).1,0):=by
    have:=(judge_good hw level hlv).1
    rw [← this]
   obtain ⟨⟨jl,ja,jo,⟨j0,j1,j2⟩,jr⟩,hjj⟩:∃ x,(judgeL h level).1=x:=⟨_,rfl⟩
   rw [hjj] at CD hj
   rw [hj]
   rw [hf] at CF
   obtain ⟨fp,hfp⟩:∃ fp,(formedL h).1=fp:=⟨_,rfl⟩
   rw [hfp] at CF
   obtain ⟨a,cap,rfl,_⟩:=hT.some_at
   obtain ⟨n,hn⟩:∃ n,h.length=n:=⟨_,rfl⟩
   rw [hn] at CF CD ⊢
   clear hT hG hl hw hf hfp hn hj hjj
   rcases hlv with rfl | rfl
   all_goals
    go_enter Tryz.func12,Tryz.ntmps12
    go_wp2_with fail
    refine (CF _ B0).mono ?_
    rintro e1 w1 ⟨rfl,b1⟩
    have B1:=bel_trans B0 b1
    have R1:=R0.below b1
    go_wp2_with fail
    refine (CD _ B1).mono ?_
    rintro e2 w2 ⟨vo,vr,rfl,b2,o2,p2⟩
    have B2:=bel_trans B1 b2
    have R2:=R1.below b2
    obtain ⟨oa,oc,rfl⟩:=own_shape12 o2
    obtain ⟨ra,rc,rfl⟩:=own_shape12 p2
    have r0:=R2.cell 0 _ rfl
    have g0:=R2.frozen 0
    have r1:=R2.cell 1 _ rfl
    have g1:=R2.frozen 1
    have r2:=R2.cell 2 _ rfl
    have g2:=R2.frozen 2
    have r3:=R2.cell 3 _ rfl
    have g3:=R2.frozen 3
    have r4:=R2.cell 4 _ rfl
    have g4:=R2.frozen 4
    have r5:=R2.cell 5 _ rfl
    have g5:=R2.frozen 5
    have r6:=R2.cell 6 _ rfl
    have g6:=R2.frozen 6
    go_wp2_with fail
    generalize hW:World.setCell _ _ _=W
    have RW:SBox W w.heap.size 28 #[.int .i64 jl,.bool ja,.slice oa jo.length oc,.int .i64 j0,.int .i64 j1,.int .i64 j2,.slice ra jr.length rc]:=by rw [← hW];exact SBox.put7 R2 _ _ _ _ _ _ _
    have BZ:Below w.heap.size w W:=by rw [← hW];exact bel_put7 B2 (Nat.le_refl _) _ _ _ _ _ _ _
    have O1:W.ownsRow w.heap.size 3 1 (.slice oa jo.length oc) jo.length (recV intV jo):=by rw [← hW];exact owns_put7 (owns_base12 o2 B1.size) (block_not_row R2 (by decide) o2) _ _ _ _ _ _ _
    have O2:W.ownsRow w.heap.size 54 5 (.slice ra jr.length rc) jr.length (recV edV jr):=by rw [← hW];exact owns_put7 (owns_base12 p2 B1.size) (block_not_row R2 (by decide) p2) _ _ _ _ _ _ _
    exact bodyPost_ret (v:=.tuple #[.agg #[.int .i64 jl,.bool ja,.slice oa jo.length oc,.int .i64 j0,.int .i64 j1,.int .i64 j2,.slice ra jr.length rc],.int .i64 0]) (results_row_tmp Tryz.results12 _ _ w.heap.size 28 _ (0,0) _ rfl RW Tryz.underlying28 rfl size_vd) rfl ⟨_,_,rfl,BZ,O1,O2⟩
  ·rw [judge_form h level hlv hf]
   have hf2:(((formedL h).2:Int) != 0)=true:=bne_iff_ne.2 (by omega)
   obtain ⟨fp,hfp⟩:∃ fp,(formedL h).1=fp:=⟨_,rfl⟩
   obtain ⟨fe,hfe⟩:∃ fe,(formedL h).2=fe:=⟨_,rfl⟩
   rw [hfp,hfe] at CF
   rw [hfe] at hf2 ⊢
   obtain ⟨a,cap,rfl,_⟩:=hT.some_at
   obtain ⟨n,hn⟩:∃ n,h.length=n:=⟨_,rfl⟩
   rw [hn] at CF ⊢
   clear hT hG hl hf hfp hfe hn
   rcases hlv with rfl | rfl
   all_goals
    go_enter Tryz.func12,Tryz.ntmps12
    go_wp2_with fail
    refine (CF _ B0).mono ?_
    rintro e1 w1 ⟨rfl,b1⟩
    have B1:=bel_trans B0 b1
    have R1:=R0.below b1
    have r0:=R1.cell 0 _ rfl
    have g0:=R1.frozen 0
    have r1:=R1.cell 1 _ rfl
    have g1:=R1.frozen 1
    have r2:=R1.cell 2 _ rfl
    have g2:=R1.frozen 2
    have r3:=R1.cell 3 _ rfl
    have g3:=R1.frozen 3
    have r4:=R1.cell 4 _ rfl
    have g4:=R1.frozen 4
    have r5:=R1.cell 5 _ rfl
    have g5:=R1.frozen 5
    have r6:=R1.cell 6 _ rfl
    have g6:=R1.frozen 6
    go_wp2_with fail
    generalize hW:World.setCell _ _ _=W
    have RW:SBox W w.heap.size 28 #[.int .i64 0,.bool false,.slice none 0 0,.int .i64 0,.int .i64 0,.int .i64 0,.slice none 0 0]:=by rw [← hW];exact SBox.put7 R1 _ _ _ _ _ _ _
    have BZ:Below w.heap.size w W:=by rw [← hW];exact bel_put7 B1 (Nat.le_refl _) _ _ _ _ _ _ _
    have O1:W.ownsRow w.heap.size 3 1 (.slice none 0 0) 0 (recV intV []):=World.ownsRow_nil _ _ _ _
    have O2:W.ownsRow w.heap.size 54 5 (.slice none 0 0) 0 (recV edV []):=World.ownsRow_nil _ _ _ _
    exact bodyPost_ret (v:=.tuple #[.agg #[.int .i64 0,.bool false,.slice none 0 0,.int .i64 0,.int .i64 0,.int .i64 0,.slice none 0 0],.int .i64 (fe:Int)]) (results_row_tmp Tryz.results12 _ _ w.heap.size 28 _ (0,0) _ rfl RW Tryz.underlying28 rfl size_vd) rfl ⟨_,_,rfl,BZ,O1,O2⟩
 ·have n1:(level != 1)=true:=bne_iff_ne.2 (by omega)
  have n2:(level != 2)=true:=bne_iff_ne.2 (by omega)
  rw [judge_arg h level (by omega) (by omega)]
  obtain ⟨a,cap,rfl,_⟩:=hT.some_at
  obtain ⟨n,hn⟩:∃ n,h.length=n:=⟨_,rfl⟩
  rw [hn] at CF ⊢
  clear hT hG hl hlv CF hn
  go_enter Tryz.func12,Tryz.ntmps12
  go_wp2_with fail
  exact bodyPost_ret (v:=.tuple #[.agg #[.int .i64 0,.bool false,.slice none 0 0,.int .i64 0,.int .i64 0,.int .i64 0,.slice none 0 0],.int .i64 1]) (results_row_tmp Tryz.results12 _ _ w.heap.size 28 _ (0,0) _ rfl R0 Tryz.underlying28 rfl size_vd) rfl ⟨_,_,rfl,B0,World.ownsRow_nil _ _ _ _,World.ownsRow_nil _ _ _ _⟩
theorem p12c:P12C:={
 judge:=fun h v w level hT hG hl _=>pjudge_any h v w level hT hG hl
 flat:=fun l vl w hT _ hF=>pflat_any vl l w hT (by omega)
 same:=fun a b ao ar bo br w h1 h2 h3 h4=>psamev_any a b ao ar bo br w h1 h2 h3 h4 }
end Go.Proofs.YtiihegldhnlleaaGreat
