/-
  What cartoucheref14.Make answers of a history that is judged and tagged without an error.
-/
import Derived.Test.YthamoeekiglphaaGreatDoorDR12Judge
import Derived.Test.YthamoeekiglphaaGreatDoorDL1b
namespace Go.Proofs.YthamoeekiglphaaGreatDoor
set_option maxRecDepth 100000
open Go.RowKit Go.Maps
set_option linter.unusedVariables false
attribute [local go_sem] ba_size
def pfN15 (TL:List Ev) (n:Nat):Pf:=((n:Int),ev TL n,pathL sumL (TL.map bytE) n)
theorem size_ct15:(Tryz.prog.info? 30).map (·.size)=some 13:=by kernel_rfl
set_option maxHeartbeats 16000000 in
theorem rmake15_any (tn:List UInt8) (sq:Int) (pv sd:List UInt8) (h TL:List Ev) (level lv bk bi bj:Int) (ac:Bool) (o:List Int) (r:List Ed) (vh:Value) (w:World) (hT:IsEvs w vh h)
 (hJ:judgeL h level=((lv,ac,o,(bk,bi,bj),r),0)) (hA:allP sd h=(TL,0)) (hl:TL.length=h.length) (hb:h.length≤256) (hmE:allMay TL)
 (hM:mayC (tn,sq,pv,rootL sumL (TL.map bytE),(h.length:Int),(lv,ac,o,(bk,bi,bj),r),(needN h (lv,ac,o,(bk,bi,bj),r)).map (pfN15 TL))) :
 Calls Tryz.prog 30 #[.string ⟨tn.toArray⟩,.int .i64 sq,.string ⟨pv.toArray⟩,.string ⟨sd.toArray⟩,vh,.int .i64 level] w fun e w'=>CtRes w ((tn,sq,pv,rootL sumL (TL.map bytE),(h.length:Int),(lv,ac,o,(bk,bi,bj),r),(needN h (lv,ac,o,(bk,bi,bj),r)).map (pfN15 TL)),0) e w':=by
 have HT0:Hid (IsEvs w vh h):=hT
 have hol:o.length≤32:=hM.2.1.1.2.1
 have hrl:r.length≤128:=hM.2.1.1.2.2.2.2
 have HM:=Lib.hid hM
 have HLb:Hid (∀ t∈TL.map bytE,t.length≤1125899906842624):=fun t ht=>by
  obtain ⟨x,hx,rfl⟩:=List.mem_map.1 ht
  have:=(bytE_len x (hmE x hx)).1
  omega
 have HLE:Hid (leavesE TL=(TL.map bytE,0)):=leavesE_ok TL (by omega) hmE
 have HNm:Hid (∀ n∈needN h (lv,ac,o,(bk,bi,bj),r),n < TL.length):=fun n hn=>by rw [hl];exact need_in h _ n hn
 have hnl:(needN h (lv,ac,o,(bk,bi,bj),r)).length≤256:=Nat.le_trans (need_len h _) hb
 obtain ⟨a,cap,rfl,h1,h2,h3,HC⟩:=hT.some_at
 have D1:=rjudge_any h (.slice a h.length cap) (w.alloc (.cells #[.string ⟨#[]⟩,.int .i64 0,.string ⟨#[]⟩,.string ⟨#[]⟩,.int .i64 0,.int .i64 0,.bool false,.slice none 0 0,.int .i64 0,.int .i64 0,.int .i64 0,.slice none 0 0,.slice none 0 0] 30)) level (hT.below ((Below.refl w.heap.size w).alloc (Nat.le_refl _) _))
 rw [hJ] at D1
 have HAll:=fun V (hV:Below w.heap.size w V)=>rall7_any sd h (.slice a h.length cap) V (hT.below hV)
 rw [hA] at HAll
 have HNd:=fun vo vr V (hV:Below w.heap.size w V) (hO:IsInts V vo o) (hR:IsEds V vr r)=>rneeds_any h (lv,ac,o,(bk,bi,bj),r) (.slice a h.length cap) vo vr V (hT.below hV) hO hR (by omega) (by simp only;omega)
 obtain ⟨ND,hND⟩:∃ x,needN h (lv,ac,o,(bk,bi,bj),r)=x:=⟨_,rfl⟩
 simp only [hND] at HNd HNm hnl HM ⊢
 obtain ⟨LL,hLL⟩:∃ x,TL.map bytE=x:=⟨_,rfl⟩
 have HLL:=Lib.hid hLL
 obtain ⟨rt,hrt⟩:∃ x,rootL sumL LL=x:=⟨_,rfl⟩
 have HRT:=Lib.hid hrt
 simp only [hLL] at HM ⊢
 rw [hrt] at HM ⊢
 obtain ⟨nh,hnh⟩:∃ n,h.length=n:=⟨_,rfl⟩
 obtain ⟨no,hno⟩:∃ n,o.length=n:=⟨_,rfl⟩
 obtain ⟨nr,hnr⟩:∃ n,r.length=n:=⟨_,rfl⟩
 obtain ⟨nd,hnd⟩:∃ n,ND.length=n:=⟨_,rfl⟩
 have HNO:=Lib.hid hno
 have HNR:=Lib.hid hnr
 have HND:=Lib.hid hnd
 rw [hnh] at h1 h3 hb hl D1 HAll HNd HM HT0 ⊢
 rw [hno] at hol
 rw [hnr] at hrl
 rw [hnd] at hnl
 have HAl:=Lib.hid HAll
 have HNds:=Lib.hid HNd
 clear hT hM hJ hA HC hND hnh hno hnr hnd hLL hrt HAll HNd hmE
 have B0:=(Below.refl w.heap.size w).alloc (Nat.le_refl _) (.cells #[.string ⟨#[]⟩,.int .i64 0,.string ⟨#[]⟩,.string ⟨#[]⟩,.int .i64 0,.int .i64 0,.bool false,.slice none 0 0,.int .i64 0,.int .i64 0,.int .i64 0,.slice none 0 0,.slice none 0 0] 30)
 have X0:=SBox.new w 30 #[.string ⟨#[]⟩,.int .i64 0,.string ⟨#[]⟩,.string ⟨#[]⟩,.int .i64 0,.int .i64 0,.bool false,.slice none 0 0,.int .i64 0,.int .i64 0,.int .i64 0,.slice none 0 0,.slice none 0 0]
 go_enter Tryz.func30,Tryz.ntmps30
 go_wp2_with fail
 refine D1.mono ?_
 rintro e w1 ⟨vo,vr,rfl,b1,o1,q1⟩
 obtain ⟨oa,oc,rfl⟩:=owns_slice15 o1
 obtain ⟨ra,rc,rfl⟩:=owns_slice15 q1
 simp only [HNO.out,HNR.out] at o1 q1 ⊢
 dsimp only [vdC]
 have B1:=bel_trans B0 b1
 have X1:=X0.below b1
 clear D1 B0 X0 b1
 have A2:Below w1.heap.size w1 (w1.alloc (.cells #[.int .i64 lv,.bool ac,.slice oa no oc,.int .i64 bk,.int .i64 bi,.int .i64 bj,.slice ra nr rc] 27)):=(Below.refl _ w1).alloc (Nat.le_refl _) _
 have Y2:=SBox.new w1 27 #[.int .i64 lv,.bool ac,.slice oa no oc,.int .i64 bk,.int .i64 bi,.int .i64 bj,.slice ra nr rc]
 have X2:=X1.below A2
 have B2:=bel_trans B1 A2
 have o2:=owns_below o1 A2
 have q2:=owns_below q1 A2
 have D2:=HAl.out _ B2
 clear X1 B1 o1 q1
 go_wp2_with fail
 refine D2.mono ?_
 rintro e w3 ⟨v3,rfl,b3,r3⟩
 obtain ⟨ta,tc,rfl⟩:=owns_slice15 r3
 simp only at r3 ⊢
 have T3:IsEvs w3 (.slice ta TL.length tc) TL:=IsRec.own evV_len (by omega) r3 (by omega)
 simp only [hl] at T3 ⊢
 have X3:=X2.below b3
 have Y3:=Y2.below b3
 have B3:=bel_trans B2 b3
 have o3:=owns_below o2 b3
 have q3:=owns_below q2 b3
 have D3:=rleaves_any TL (.slice ta nh tc) w3 T3
 rw [HLE.out] at D3
 clear D2 X2 Y2 b3 o2 q2 r3 B2 A2
 go_wp2_with fail
 refine D3.mono ?_
 rintro e w4 ⟨v4,rfl,b4,r4⟩
 obtain ⟨la,lc,rfl⟩:=owns_slice15 r4
 simp only at r4
 have T4':IsTxt w4 (.slice la (TL.map bytE).length lc) (TL.map bytE):=IsTxt.own r4 (by rw [List.length_map];omega) HLb.out
 have HLm:Hid ((TL.map bytE).length=nh):=by show _=_;rw [List.length_map,hl]
 simp only [HLm.out] at T4' ⊢
 have X4:=X3.below b4
 have Y4:=Y3.below b4
 have B4:=bel_trans B3 b4
 have o4:=owns_below o3 b4
 have q4:=owns_below q3 b4
 have T4:=T3.below b4
 have hLN:(TL.map bytE).length≤4096:=by rw [List.length_map];omega
 rw [HLL.out] at T4' hLN HLm
 clear D3 X3 Y3 b4 o3 q3 r4 T3 B3 HLE HLb
 have y0:=Y4.cell 0 _ rfl
 have y1:=Y4.cell 1 _ rfl
 have y2:=Y4.cell 2 _ rfl
 have y3:=Y4.cell 3 _ rfl
 have y4:=Y4.cell 4 _ rfl
 have y5:=Y4.cell 5 _ rfl
 have y6:=Y4.cell 6 _ rfl
 have HX4:=Lib.hid X4
 have HT4:=Lib.hid T4
 have HTx4:=Lib.hid T4'
 have Hy4:=Lib.hid Y4
 have Ho4:=Lib.hid o4
 have Hq4:=Lib.hid q4
 have B5:=B4.alloc B4.size (.cells #[.string ⟨tn.toArray⟩,.int .i64 sq,.string ⟨pv.toArray⟩,.string ⟨#[]⟩,.int .i64 (nh:Int),.int .i64 lv,.bool ac,.slice oa no oc,.int .i64 bk,.int .i64 bi,.int .i64 bj,.slice ra nr rc,.slice none 0 0] 30)
 have A5:Below w4.heap.size w4 (w4.alloc (.cells #[.string ⟨tn.toArray⟩,.int .i64 sq,.string ⟨pv.toArray⟩,.string ⟨#[]⟩,.int .i64 (nh:Int),.int .i64 lv,.bool ac,.slice oa no oc,.int .i64 bk,.int .i64 bi,.int .i64 bj,.slice ra nr rc,.slice none 0 0] 30)):=(Below.refl _ w4).alloc (Nat.le_refl _) _
 have Z5:=SBox.new w4 30 #[.string ⟨tn.toArray⟩,.int .i64 sq,.string ⟨pv.toArray⟩,.string ⟨#[]⟩,.int .i64 (nh:Int),.int .i64 lv,.bool ac,.slice oa no oc,.int .i64 bk,.int .i64 bi,.int .i64 bj,.slice ra nr rc,.slice none 0 0]
 have D5:=rroot_any LL (.slice la nh lc) (w4.alloc (.cells #[.string ⟨tn.toArray⟩,.int .i64 sq,.string ⟨pv.toArray⟩,.string ⟨#[]⟩,.int .i64 (nh:Int),.int .i64 lv,.bool ac,.slice oa no oc,.int .i64 bk,.int .i64 bi,.int .i64 bj,.slice ra nr rc,.slice none 0 0] 30)) (T4'.below A5) hLN
 rw [HRT.out] at D5
 clear X4 Y4 T4 T4' o4 q4
 go_wp2_with fail
 refine D5.mono ?_
 rintro e w6 ⟨rfl,b6⟩
 have Z6:=Z5.below b6
 have A6:=bel_trans A5 b6
 clear D5 Z5 A5 B5 y0 y1 y2 y3 y4 y5 y6
 have f3:=Z6.frozen 3
 have f3c:=Z6.cell 3 _ rfl
 have Z7:SBox (w6.setCell ⟨w4.heap.size,3,none⟩ (.string ⟨rt.toArray⟩)) w4.heap.size 30 #[.string ⟨tn.toArray⟩,.int .i64 sq,.string ⟨pv.toArray⟩,.string ⟨rt.toArray⟩,.int .i64 (nh:Int),.int .i64 lv,.bool ac,.slice oa no oc,.int .i64 bk,.int .i64 bi,.int .i64 bj,.slice ra nr rc,.slice none 0 0]:=Z6.set 3 (.string ⟨rt.toArray⟩)
 have A7:=A6.setCell (p:=⟨w4.heap.size,3,none⟩) (Nat.le_refl _) (.string ⟨rt.toArray⟩)
 have Y7:=(Hy4.out.below A7)
 have y0:=Y7.cell 0 _ rfl
 have y1:=Y7.cell 1 _ rfl
 have y2:=Y7.cell 2 _ rfl
 have y3:=Y7.cell 3 _ rfl
 have y4:=Y7.cell 4 _ rfl
 have y5:=Y7.cell 5 _ rfl
 have y6:=Y7.cell 6 _ rfl
 have B7:=bel_trans B4 A7
 have hO7:IsInts (w6.setCell ⟨w4.heap.size,3,none⟩ (.string ⟨rt.toArray⟩)) (.slice oa no oc) o:=(IsRec.own intV_len (by omega) Ho4.out (by omega)).below A7
 have hR7:IsEds (w6.setCell ⟨w4.heap.size,3,none⟩ (.string ⟨rt.toArray⟩)) (.slice ra nr rc) r:=(IsRec.own edV_len (by omega) Hq4.out (by omega)).below A7
 have D7:=HNds.out _ _ _ B7 hO7 hR7
 have HZ7:=Lib.hid Z7
 have HA7:=Lib.hid A7
 clear Z7 A7 hO7 hR7 Y7 A6 Z6 b6 HAl HNds
 go_wp2_with fail
 refine D7.mono ?_
 rintro e w8 ⟨v8,rfl,b8,r8⟩
 obtain ⟨na,nc,rfl⟩:=owns_slice15 r8
 clear D7 y0 y1 y2 y3 y4 y5 y6 f3 f3c B7
 have HML:Hid ((ND.map Int.ofNat).length=nd):=by show _=_;rw [List.length_map,HND.out]
 have S0:MkS w4 w8 (fun vc=>#[.string ⟨tn.toArray⟩,.int .i64 sq,.string ⟨pv.toArray⟩,.string ⟨rt.toArray⟩,.int .i64 (nh:Int),.int .i64 lv,.bool ac,.slice oa no oc,.int .i64 bk,.int .i64 bi,.int .i64 bj,.slice ra nr rc,vc]) (.slice none 0 0) (.slice none 0 0) [] [] (.slice na nd nc) (ND.map Int.ofNat) :=
  ⟨bel_trans HA7.out b8,HZ7.out.below b8,World.ownsRow_nil _ _ _ _,PfW.nil _,by
   have hz:=HA7.out.size
   have:=owns_base15 r8 hz
   rw [HML.out] at this ⊢
   exact this⟩
 simp only [HML.out] at r8 ⊢
 clear r8 b8 HZ7 HA7
 have HP:Hid (∀ k,k < nd→∀ V,Below w4.heap.size w4 V→Calls Tryz.prog 27 #[.slice la nh lc,.int .i64 (ND.getD k 0:Nat)] V fun e w'=>∃ p,e=.returned (.tuple #[p,.int .i64 0])∧w'.ownsRow V.heap.size 9 1 p (pathL sumL LL (ND.getD k 0)).length (strV (pathL sumL LL (ND.getD k 0)))∧Below V.heap.size V w'):=fun k hk V hV=>by
  have hk2:k < ND.length:=by rw [HND.out];exact hk
  have hin:=HNm.out ND[k] (List.getElem_mem hk2)
  have e:ND.getD k 0=ND[k]:=by rw [List.getD_eq_getElem?_getD,List.getElem?_eq_getElem hk2];rfl
  rw [e]
  exact rpath_any LL.length LL (.slice la nh lc) V ND[k] rfl hLN (by rw [HLm.out,← hl];exact hin) (HTx4.out.below hV)
 have HP2:Hid (∀ k,k < nd→(pathL sumL LL (ND.getD k 0)).length≤140737488351232∧∀ t∈pathL sumL LL (ND.getD k 0),t.length≤1125899906842624):=fun k hk=>by
  have hk2:k < ND.length:=by rw [HND.out];exact hk
  have hin:=HNm.out ND[k] (List.getElem_mem hk2)
  have e:ND.getD k 0=ND[k]:=by rw [List.getD_eq_getElem?_getD,List.getElem?_eq_getElem hk2];rfl
  have hpf:=HM.out.2.2.2 (pfN15 TL ND[k]) (List.mem_map.2 ⟨ND[k],List.getElem_mem hk2,rfl⟩)
  have h12:(pathL sumL LL ND[k]).length≤12∧∀ t∈pathL sumL LL ND[k],t.length=32:=by rw [← HLL.out];exact ⟨hpf.2.1,hpf.2.2⟩
  rw [e]
  exact ⟨by omega,fun t ht=>by rw [h12.2 t ht];omega⟩
 have HNx:Hid (∀ k,k < nd→(ND.take (k+1)).map (pfN15 TL)=(ND.take k).map (pfN15 TL)++[(((ND.getD k 0:Nat):Int),ev TL (ND.getD k 0),pathL sumL LL (ND.getD k 0))]):=fun k hk=>by
  have hk2:k < ND.length:=by rw [HND.out];exact hk
  rw [List.take_succ_eq_append_getElem hk2,List.map_append,List.getD_eq_getElem?_getD,List.getElem?_eq_getElem hk2,← HLL.out]
  rfl
 have HNc:Hid (∀ k,k < nd→∀ V vc vp L' L,MkS w4 V (fun vc=>#[.string ⟨tn.toArray⟩,.int .i64 sq,.string ⟨pv.toArray⟩,.string ⟨rt.toArray⟩,.int .i64 (nh:Int),.int .i64 lv,.bool ac,.slice oa no oc,.int .i64 bk,.int .i64 bi,.int .i64 bj,.slice ra nr rc,vc]) vc vp L' L (.slice na nd nc) (ND.map Int.ofNat)→∃ g,na=some ⟨g,0,none⟩∧V.cell? ⟨g,k,none⟩=some (.int .i64 (ND.getD k 0:Nat))):=fun k hk V vc vp L' L hS=>by
  have hk2:k < ND.length:=by rw [HND.out];exact hk
  have hk3:k < (ND.map Int.ofNat).length:=by rw [HML.out];exact hk
  rcases hS.nd.2 with ⟨h4,h5⟩ | ⟨g,cap,cur,h4,_⟩
  ·cases h4
   rw [HML.out] at h5
   omega
  ·have e1:na=some ⟨g,0,none⟩:=by injection h4
   subst e1
   have hS2:MkS w4 V (fun vc=>#[.string ⟨tn.toArray⟩,.int .i64 sq,.string ⟨pv.toArray⟩,.string ⟨rt.toArray⟩,.int .i64 (nh:Int),.int .i64 lv,.bool ac,.slice oa no oc,.int .i64 bk,.int .i64 bi,.int .i64 bj,.slice ra nr rc,vc]) vc vp L' L (.slice (some ⟨g,0,none⟩) (ND.map Int.ofNat).length nc) (ND.map Int.ofNat):=by rw [HML.out];exact hS
   refine ⟨g,rfl,?_⟩
   have:=hS2.ndcell k hk3
   rw [this,List.getElem_map,List.getD_eq_getElem?_getD,List.getElem?_eq_getElem hk2]
   rfl
 have HTk:Hid (∀ k,k < nd→ND.getD k 0 < nh):=fun k hk=>by
  have hk2:k < ND.length:=by rw [HND.out];exact hk
  have hin:=HNm.out ND[k] (List.getElem_mem hk2)
  rw [List.getD_eq_getElem?_getD,List.getElem?_eq_getElem hk2]
  rw [hl] at hin
  exact hin
 obtain ⟨ta2,tc2,hte,_,_,_,HCt⟩:=IsEvs.reads HT4.out
 obtain ⟨rfl,rfl⟩:ta=ta2∧tc=tc2:=by rw [hl] at hte;simpa using hte
 have HS0:=Lib.hid S0
 clear S0 hte
 go_wp2_with fail
 go_loopw [22] (fun i wr=>∃ k:Nat,k≤nd∧i=.int .i64 k∧∃ vp L',Hid (MkS w4 wr (fun vc=>#[.string ⟨tn.toArray⟩,.int .i64 sq,.string ⟨pv.toArray⟩,.string ⟨rt.toArray⟩,.int .i64 (nh:Int),.int .i64 lv,.bool ac,.slice oa no oc,.int .i64 bk,.int .i64 bi,.int .i64 bj,.slice ra nr rc,vc]) vp vp L' ((ND.take k).map (pfN15 TL)) (.slice na nd nc) (ND.map Int.ofNat))) (fun i _=>nd - (RowKit.intOf i).toNat)
 case atStart=>exact ⟨0,Nat.zero_le _,rfl,_,_,HS0⟩
 case round =>
  obtain ⟨k,hk,rfl,vp,L',HS⟩:=hrel
  by_cases hlt:k < nd
  ·have j0:(k:Int) < (nd:Int):=by omega
   obtain ⟨ng,rfl,nc0⟩:=HNc.out k hlt _ _ _ _ _ HS.out
   have DP:=HP.out k hlt wr HS.out.bel
   have hp2:=HP2.out k hlt
   have HNk:=Lib.hid (HNx.out k hlt)
   have htk:=HTk.out k hlt
   have HNc1:=Lib.hid (fun V vc vp L' L hS=>(HNc.out k hlt V vc vp L' L hS))
   obtain ⟨tb,to_,rfl,HQ⟩:=HCt.out (by omega)
   have HQ1:=Lib.hid (HQ.out (ND.getD k 0) (by rw [hl];exact htk))
   have hLl:L'.length≤1000000:=by
    have:=HS.out.of.1
    rw [List.length_map,List.length_take] at this
    omega
   generalize ND.getD k 0=n at nc0 DP hp2 HNk htk HNc1 HQ1
   generalize pathL sumL LL n=pt at DP hp2 HNk
   obtain ⟨⟨x0,x1,x2,x3⟩,hx⟩:∃ x,ev TL n=x:=⟨_,rfl⟩
   rw [hx] at HNk HQ1
   have jn:(n:Int) < (nh:Int):=by omega
   have jw:IntKind.i64.wrap ((k:Int)+1)=(k:Int)+1:=by rw [IntKind.wrap_i64];omega
   clear hx HQ
   go_wp2_with fail
   refine DP.mono ?_
   rintro e w9 ⟨p9,rfl,r9,b9⟩
   obtain ⟨pa,pc,rfl⟩:=owns_slice15 r9
   obtain ⟨np,hnp⟩:∃ z,pt.length=z:=⟨_,rfl⟩
   rw [hnp] at r9 ⊢
   have HNP:=Lib.hid hnp
   have S9:=HS.out.below b9
   have HR9:=Lib.hid r9
   have HS9:=Lib.hid S9
   clear nc0 DP HS b9 r9 hnp S9
   go_upto_region 15 with fail
   ·refine wp_region_any (by kernel_rfl) ?_
    change wpAny _ _ _ _ _ _ _ (World.drew _)
    have b10:Below w9.heap.size w9 w9.drew:=(Below.refl _ _).drew
    have HS10:=Lib.hid (HS9.out.below b10)
    have HR10:=Lib.hid (owns_below HR9.out b10)
    generalize World.drew _=wd at HS10 HR10 ⊢
    clear HS9 HR9 b10
    have HF:Hid (∀ V,(∃ v1 L1 L2,MkS w4 V (fun vc=>#[.string ⟨tn.toArray⟩,.int .i64 sq,.string ⟨pv.toArray⟩,.string ⟨rt.toArray⟩,.int .i64 (nh:Int),.int .i64 lv,.bool ac,.slice oa no oc,.int .i64 bk,.int .i64 bi,.int .i64 bj,.slice ra nr rc,vc]) vp v1 L1 L2 (.slice (some ⟨ng,0,none⟩) nd nc) (ND.map Int.ofNat))→V.cell? ⟨w4.heap.size,12,none⟩=some vp∧V.cell? ⟨ng,k,none⟩=some (.int .i64 (n:Nat))∧V.cell? ⟨tb,to_+n*4,none⟩=some (.int .i64 x0)∧V.cell? ⟨tb,to_+n*4+1,none⟩=some (.int .i64 x1)∧V.cell? ⟨tb,to_+n*4+2,none⟩=some (.string ⟨x2.toArray⟩)∧V.cell? ⟨tb,to_+n*4+3,none⟩=some (.string ⟨x3.toArray⟩)):=fun V hV=>by
     obtain ⟨v1,L1,L2,hV⟩:=hV
     obtain ⟨g,hg,hc⟩:=HNc1.out V _ _ _ _ hV
     obtain rfl:ng=g:=by injection hg with h;injection h
     obtain ⟨t0,t1,t2,t3⟩:=HQ1.out V hV.bel
     exact ⟨hV.bx.cell 12 _ rfl,hc,t0,t1,t2,t3⟩
    refine any_of_C (C:=fun V=>∃ v1 L1 L2,MkS w4 V (fun vc=>#[.string ⟨tn.toArray⟩,.int .i64 sq,.string ⟨pv.toArray⟩,.string ⟨rt.toArray⟩,.int .i64 (nh:Int),.int .i64 lv,.bool ac,.slice oa no oc,.int .i64 bk,.int .i64 bi,.int .i64 bj,.slice ra nr rc,vc]) vp v1 L1 L2 (.slice (some ⟨ng,0,none⟩) nd nc) (ND.map Int.ofNat)) 17 _ _ _ _ ?_
    refine takeD 0 (.pointer (some ⟨w4.heap.size,12,none⟩)) rfl (by kernel_rfl) (fun _ _ _ h=>h) (fun V hV=>(by obtain ⟨u0,u1,u2,u3,u4,u5⟩:=HF.out V hV;go_simp)) ?_
    refine takeD 1 (vp) rfl (by kernel_rfl) (fun _ _ _ h=>h) (fun V hV=>(by obtain ⟨u0,u1,u2,u3,u4,u5⟩:=HF.out V hV;go_simp)) ?_
    refine takeD 2 (.slice (some ⟨ng,0,none⟩) nd nc) rfl (by kernel_rfl) (fun _ _ _ h=>h) (fun V hV=>(by obtain ⟨u0,u1,u2,u3,u4,u5⟩:=HF.out V hV;go_simp)) ?_
    refine takeD 3 (.int .i64 (k:Int)) rfl (by kernel_rfl) (fun _ _ _ h=>h) (fun V hV=>(by obtain ⟨u0,u1,u2,u3,u4,u5⟩:=HF.out V hV;go_simp)) ?_
    refine takeD 4 (.pointer (some ⟨ng,k,none⟩)) rfl (by kernel_rfl) (fun _ _ _ h=>h) (fun V hV=>(by obtain ⟨u0,u1,u2,u3,u4,u5⟩:=HF.out V hV;go_simp)) ?_
    refine takeD 5 (.int .i64 (n:Nat)) rfl (by kernel_rfl) (fun _ _ _ h=>h) (fun V hV=>(by obtain ⟨u0,u1,u2,u3,u4,u5⟩:=HF.out V hV;go_simp)) ?_
    refine takeD 6 (.slice (some ⟨tb,to_,none⟩) nh tc) rfl (by kernel_rfl) (fun _ _ _ h=>h) (fun V hV=>(by obtain ⟨u0,u1,u2,u3,u4,u5⟩:=HF.out V hV;go_simp)) ?_
    refine takeD 7 (.slice (some ⟨ng,0,none⟩) nd nc) rfl (by kernel_rfl) (fun _ _ _ h=>h) (fun V hV=>(by obtain ⟨u0,u1,u2,u3,u4,u5⟩:=HF.out V hV;go_simp)) ?_
    refine takeD 8 (.int .i64 (k:Int)) rfl (by kernel_rfl) (fun _ _ _ h=>h) (fun V hV=>(by obtain ⟨u0,u1,u2,u3,u4,u5⟩:=HF.out V hV;go_simp)) ?_
    refine takeD 9 (.pointer (some ⟨ng,k,none⟩)) rfl (by kernel_rfl) (fun _ _ _ h=>h) (fun V hV=>(by obtain ⟨u0,u1,u2,u3,u4,u5⟩:=HF.out V hV;go_simp)) ?_
    refine takeD 10 (.int .i64 (n:Nat)) rfl (by kernel_rfl) (fun _ _ _ h=>h) (fun V hV=>(by obtain ⟨u0,u1,u2,u3,u4,u5⟩:=HF.out V hV;go_simp)) ?_
    refine takeD 11 (.pointer (some ⟨tb,to_+n*4,none⟩)) rfl (by kernel_rfl) (fun _ _ _ h=>h) (fun V hV=>(by obtain ⟨u0,u1,u2,u3,u4,u5⟩:=HF.out V hV;go_simp)) ?_
    refine takeD 12 (.agg #[.int .i64 x0,.int .i64 x1,.string ⟨x2.toArray⟩,.string ⟨x3.toArray⟩]) rfl (by kernel_rfl) (fun _ _ _ h=>h) (fun V hV=>(by obtain ⟨u0,u1,u2,u3,u4,u5⟩:=HF.out V hV;go_simp)) ?_
    refine takeD 13 (.slice pa np pc) rfl (by kernel_rfl) (fun _ _ _ h=>h) (fun V hV=>(by obtain ⟨u0,u1,u2,u3,u4,u5⟩:=HF.out V hV;go_simp)) ?_
    refine takeD 14 (.agg #[.int .i64 (n:Nat),.int .i64 x0,.int .i64 x1,.string ⟨x2.toArray⟩,.string ⟨x3.toArray⟩,.slice pa np pc]) rfl (by kernel_rfl) (fun _ _ _ h=>h) (fun V hV=>(by obtain ⟨u0,u1,u2,u3,u4,u5⟩:=HF.out V hV;go_simp)) ?_
    refine consC (i:=15) (by kernel_rfl) (by kernel_rfl) ⟨_,_,_,HS10.out⟩ rfl (fun K hK=>?_)
    go_wp2_with fail
    have b11:Below wd.heap.size wd (wd.alloc (.cells #[.int .i64 (n:Nat),.int .i64 x0,.int .i64 x1,.string ⟨x2.toArray⟩,.string ⟨x3.toArray⟩,.slice pa np pc] 55)):=(Below.refl _ wd).alloc (Nat.le_refl _) _
    refine consC (i:=16) (by kernel_rfl) (by kernel_rfl) ⟨_,_,_,HS10.out.below b11⟩ rfl (fun K hK=>?_)
    refine wp_pushP15 rfl _ _ rfl HS10.out rfl ((n:Int),(x0,x1,x2,x3),.slice pa np pc) ((n:Int),(x0,x1,x2,x3),pt) rfl rfl ⟨_,by rw [HNP.out];exact HR10.out⟩ hp2.1 hp2.2 1 rfl hLl (by intro u hu;simp [pfV] at hu;rcases hu with rfl | rfl | rfl | rfl | rfl | rfl<;>rfl) ?_
    intro ad cap9 W11 S11
    rw [← HNk.out] at S11
    have bxc:=S11.bx.cell 12 _ rfl
    have bxf:=S11.bx.frozen 12
    have S12:=S11.put rfl
    have HS11:=Lib.hid S11
    have HS12:=Lib.hid S12
    clear S11 S12 HS10 HR10
    go_wp2_with fail
    refine lastC (by kernel_rfl) (by kernel_rfl) ⟨_,_,_,HS11.out⟩ (of_decide_eq_true (by kernel_rfl)) ?_
    refine any_seqI [17,18] [_,_] _ _ _ rfl (by kernel_rfl) ?_
    go_wp2_with fail
    go_roundw
    case rel=>exact ⟨k+1,by omega,by first | go_num | simp,_,_,HS12⟩
    case measure=>simp [RowKit.intOf];omega
  ·obtain rfl:k=nd:=by omega
   have jq:¬ (k:Int) < (k:Int):=by omega
   have HTk2:Hid ((ND.take k).map (pfN15 TL)=ND.map (pfN15 TL)):=by show _=_;rw [List.take_of_length_le (by rw [HND.out];exact Nat.le_refl _)]
   have S1:=HS.out
   rw [HTk2.out] at S1
   have hPL:IsPfs wr vp (ND.map (pfN15 TL)):=⟨L',IsRec.own pfV_len (by omega) S1.row (by have:=S1.of.1;rw [List.length_map] at this;rw [this,HND.out];omega),S1.of.of⟩
   obtain ⟨pa,pc,rfl⟩:=owns_slice15 S1.row
   have hLn:L'.length=k:=by have:=S1.of.1;rw [List.length_map,HND.out] at this;exact this
   rw [hLn] at S1 hPL
   have hOw:IsInts wr (.slice oa no oc) o:=(IsRec.own intV_len (by omega) Ho4.out (by omega)).below S1.bel
   have hRw:IsEds wr (.slice ra nr rc) r:=(IsRec.own edV_len (by omega) Hq4.out (by omega)).below S1.bel
   have DM:=rmay14_any (tn,sq,pv,rt,(nh:Int),(lv,ac,o,(bk,bi,bj),r),ND.map (pfN15 TL)) (.slice oa no oc) (.slice ra nr rc) (.slice pa k pc) wr ⟨hOw,hRw,hPL⟩
   rw [decide_eq_true HM.out] at DM
   have c0:=S1.bx.cell 0 _ rfl
   have c1:=S1.bx.cell 1 _ rfl
   have c2:=S1.bx.cell 2 _ rfl
   have c3:=S1.bx.cell 3 _ rfl
   have c4:=S1.bx.cell 4 _ rfl
   have c5:=S1.bx.cell 5 _ rfl
   have c6:=S1.bx.cell 6 _ rfl
   have c7:=S1.bx.cell 7 _ rfl
   have c8:=S1.bx.cell 8 _ rfl
   have c9:=S1.bx.cell 9 _ rfl
   have c10:=S1.bx.cell 10 _ rfl
   have c11:=S1.bx.cell 11 _ rfl
   have c12:=S1.bx.cell 12 _ rfl
   have Bw:=bel_trans B4 S1.bel
   have X9:=HX4.out.below S1.bel
   have HS1:=Lib.hid S1
   have HA9:=Lib.hid (show CtAt wr (tn,sq,pv,rt,(nh:Int),(lv,ac,o,(bk,bi,bj),r),ND.map (pfN15 TL)) (.slice oa no oc) (.slice ra nr rc) (.slice pa k pc) from ⟨hOw,hRw,hPL⟩)
   have HX9:=Lib.hid X9
   clear S1 hPL hOw hRw X9 HS
   go_wp2_with fail
   refine DM.mono ?_
   rintro e w8' ⟨rfl,b8⟩
   have S8:=HS1.out.below b8
   have X8:=HX9.out.below b8
   have B8:=bel_trans Bw b8
   have HA8:=Lib.hid (HA9.out.below b8)
   clear c0 c1 c2 c3 c4 c5 c6 c7 c8 c9 c10 c11 c12 b8 Bw DM HX9 HA9
   have c0:=S8.bx.cell 0 _ rfl
   have c1:=S8.bx.cell 1 _ rfl
   have c2:=S8.bx.cell 2 _ rfl
   have c3:=S8.bx.cell 3 _ rfl
   have c4:=S8.bx.cell 4 _ rfl
   have c5:=S8.bx.cell 5 _ rfl
   have c6:=S8.bx.cell 6 _ rfl
   have c7:=S8.bx.cell 7 _ rfl
   have c8:=S8.bx.cell 8 _ rfl
   have c9:=S8.bx.cell 9 _ rfl
   have c10:=S8.bx.cell 10 _ rfl
   have c11:=S8.bx.cell 11 _ rfl
   have c12:=S8.bx.cell 12 _ rfl
   have x0:=X8.cell 0 _ rfl
   have f0:=X8.frozen 0
   have x1:=X8.cell 1 _ rfl
   have f1:=X8.frozen 1
   have x2:=X8.cell 2 _ rfl
   have f2:=X8.frozen 2
   have x3:=X8.cell 3 _ rfl
   have f3:=X8.frozen 3
   have x4:=X8.cell 4 _ rfl
   have f4:=X8.frozen 4
   have x5:=X8.cell 5 _ rfl
   have f5:=X8.frozen 5
   have x6:=X8.cell 6 _ rfl
   have f6:=X8.frozen 6
   have x7:=X8.cell 7 _ rfl
   have f7:=X8.frozen 7
   have x8:=X8.cell 8 _ rfl
   have f8:=X8.frozen 8
   have x9:=X8.cell 9 _ rfl
   have f9:=X8.frozen 9
   have x10:=X8.cell 10 _ rfl
   have f10:=X8.frozen 10
   have x11:=X8.cell 11 _ rfl
   have f11:=X8.frozen 11
   have x12:=X8.cell 12 _ rfl
   have f12:=X8.frozen 12
   have hlow:w.heap.size < w4.heap.size:=HX4.out.lt
   have KP:=kept_putL (B:=w.heap.size) [.string ⟨tn.toArray⟩,.int .i64 sq,.string ⟨pv.toArray⟩,.string ⟨rt.toArray⟩,.int .i64 (nh:Int),.int .i64 lv,.bool ac,.slice oa no oc,.int .i64 bk,.int .i64 bi,.int .i64 bj,.slice ra nr rc,.slice pa k pc] 0 w8'
   have HSP:=Lib.hid (SBox.putL [.string ⟨tn.toArray⟩,.int .i64 sq,.string ⟨pv.toArray⟩,.string ⟨rt.toArray⟩,.int .i64 (nh:Int),.int .i64 lv,.bool ac,.slice oa no oc,.int .i64 bk,.int .i64 bi,.int .i64 bj,.slice ra nr rc,.slice pa k pc] [] [.string ⟨#[]⟩,.int .i64 0,.string ⟨#[]⟩,.string ⟨#[]⟩,.int .i64 0,.int .i64 0,.bool false,.slice none 0 0,.int .i64 0,.int .i64 0,.int .i64 0,.slice none 0 0,.slice none 0 0] w8' rfl X8)
   have BP:=B8.grown KP B8.size (fun q h9=>by cases h9;exact Nat.le_refl _)
   have HBP:=Lib.hid BP
   have HFin:Hid (CtAt (putL w8' w.heap.size 0 [.string ⟨tn.toArray⟩,.int .i64 sq,.string ⟨pv.toArray⟩,.string ⟨rt.toArray⟩,.int .i64 (nh:Int),.int .i64 lv,.bool ac,.slice oa no oc,.int .i64 bk,.int .i64 bi,.int .i64 bj,.slice ra nr rc,.slice pa k pc]) (tn,sq,pv,rt,(nh:Int),(lv,ac,o,(bk,bi,bj),r),ND.map (pfN15 TL)) (.slice oa no oc) (.slice ra nr rc) (.slice pa k pc)):=by
    refine ⟨?_,?_,?_⟩
    ·exact IsRec.own intV_len (by omega) (owns_type15 (owns_below Ho4.out S8.bel) X8 (by decide) KP) (by omega)
    ·exact IsRec.own edV_len (by omega) (owns_type15 (owns_below Hq4.out S8.bel) X8 (by decide) KP) (by omega)
    ·exact ⟨L',IsRec.own pfV_len (by omega) (owns_type15 S8.row X8 (by decide) KP) (by omega),(S8.of.map (fun B v n xs c=>owns_type15 c X8 (by decide) KP)).of⟩
   clear KP BP S8
   go_wp2_with fail
   exact bodyPost_ret (v:=.tuple #[.agg #[.string ⟨tn.toArray⟩,.int .i64 sq,.string ⟨pv.toArray⟩,.string ⟨rt.toArray⟩,.int .i64 (nh:Int),.int .i64 lv,.bool ac,.slice oa no oc,.int .i64 bk,.int .i64 bi,.int .i64 bj,.slice ra nr rc,.slice pa k pc],.int .i64 0]) (results_row_tmp Tryz.results30 _ _ w.heap.size 30 _ (0,0) _ rfl HSP.out Tryz.underlying30 rfl size_ct15) rfl ⟨_,_,_,rfl,HBP.out,HFin.out⟩
end Go.Proofs.YthamoeekiglphaaGreatDoor
