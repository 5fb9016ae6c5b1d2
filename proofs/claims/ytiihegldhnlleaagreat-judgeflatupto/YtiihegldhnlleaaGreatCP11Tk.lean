/-
  What (ring.web).take does, whatever is called for who has lost a step.
-/
import Derived.Test.YtiihegldhnlleaaGreatCL1a
namespace Go.Proofs.YtiihegldhnlleaaGreat
set_option maxRecDepth 100000
open Go.RowKit Go.Maps
set_option linter.unusedVariables false
attribute [local go_sem] ba_size
structure TkS (Wc V:World) (m1 nb bt:Nat) (cs:Array Value) (c:Cnt):Prop where
 cm:CMap V m1 nb c
 gr:Wc.grownBy V (some m1)
 bx:SBox V bt tW cs
section
variable {Wc V V':World} {m1 nb bt:Nat} {cs:Array Value} {c:Cnt}
theorem TkS.bel (h:TkS Wc V m1 nb bt cs c) (hb:Below V.heap.size V V'):TkS Wc V' m1 nb bt cs c :=
 ⟨h.cm.bel hb h.cm.lt,h.gr.trans (grown_below8 _ hb),h.bx.below hb⟩
theorem TkS.map (h:TkS Wc V m1 nb bt cs c) {c':Cnt} (hc:CMap V' m1 nb c') (hg:V.grownBy V' (some m1)) (hne:bt≠m1):TkS Wc V' m1 nb bt cs c' :=
 ⟨hc,h.gr.trans hg,(hg.block bt h.bx.lt (fun e=>hne (by simpa using e))).trans h.bx⟩
theorem TkS.fr (h:TkS Wc V m1 nb bt cs c) {bv:Nat} (hf:Fr Wc.heap.size bv V V') (hm:m1 < Wc.heap.size) (hne:bt≠bv) (hv:some bt≠vblk V bv):TkS Wc V' m1 nb bt cs c :=
 ⟨h.cm.bel hf.bel hm,⟨hf.bel.os.trans h.gr.os,hf.bel.tape.trans h.gr.tape,hf.bel.output.trans h.gr.output,Nat.le_trans h.gr.size hf.bel.size,fun k hk hn=>(hf.bel.block k hk).trans (h.gr.block k hk hn)⟩,hf.box h.bx hne hv⟩
end
theorem isMap_lt {W:World} {b:Nat} (h:isMapB W b):b < W.heap.size:=by
 obtain ⟨es,cl,h⟩:=h
 exact (Array.getElem?_eq_some_iff.1 h).1
set_option maxHeartbeats 8000000 in
theorem ptake_in (Wc W:World) (l:List Stp) (N:List Int) (vl vn:Value) (m1 m2 m3 nb:Nat) (hw:Web Wc l N vl vn m1 m2 m3) (c:Cnt) (hM:CMap W m1 nb c) (hnb:nb < 9223372036854775807) (hg:Wc.grownBy W (some m1)) (x:Int) (hx:I64 x) (hb:bndC c 0 (l.length:Int))
 (K:Nat) (hK:∀ args V,(callFunc K args).run Tryz.prog V=.ok (.enter K args) V) (caps:Array Value) (bv:Nat) (hbv:bv < W.heap.size) (J1 J2:Nat→World→Prop) (h0:J1 0 W) (F T:List Nat) (X1 X2:List Int) (c0 c1:Cnt) (hF:frL l (inN N) x=F) (hT:toL l (inN N) x=T) (hX1:X1=F.map fun i=>(stA l i).2.1) (hX2:X2=T.map fun i=>(stA l i).1) (hc0:delC c x=c0) (hc1:X1.foldl st1 c0=c1)
 (box1:∀ i V b cs,J1 i V→SBox V b tW cs→some b≠vblk V bv)
 (keep1:∀ i V V',J1 i V→V.grownBy V' (some m1)→J1 i V')
 (call1:∀ i (hi:i < X1.length) V,Wc.grownBy V (some m1)→W.heap.size≤V.heap.size→(s1 c0 X1 i X1[i]).isSome=true→J1 i V→CMap V m1 nb (s1 c0 X1 (i+1)) →
  Calls Tryz.prog K (#[.int .i64 X1[i]]++caps) V fun e V'=>e=.returned (.tuple #[])∧J1 (i+1) V'∧Fr Wc.heap.size bv V V')
 (skip1:∀ i (hi:i < X1.length) V,s1 c0 X1 i X1[i]=none→J1 i V→J1 (i+1) V)
 (join:∀ V,J1 X1.length V→J2 0 V)
 (box2:∀ i V b cs,J2 i V→SBox V b tW cs→some b≠vblk V bv)
 (keep2:∀ i V V',J2 i V→V.grownBy V' (some m1)→J2 i V')
 (call2:∀ i (hi:i < X2.length) V,Wc.grownBy V (some m1)→W.heap.size≤V.heap.size→(s2 c1 X2 i X2[i]).isSome=true→J2 i V→CMap V m1 nb (s2 c1 X2 (i+1)) →
  Calls Tryz.prog K (#[.int .i64 X2[i]]++caps) V fun e V'=>e=.returned (.tuple #[])∧J2 (i+1) V'∧Fr Wc.heap.size bv V V')
 (skip2:∀ i (hi:i < X2.length) V,s2 c1 X2 i X2[i]=none→J2 i V→J2 (i+1) V) :
 Calls Tryz.prog 80 #[webV vl vn m1 m2 m3,.int .i64 x,.func (.func K) #[] caps] W fun e V'=>e=.returned (.tuple #[])∧J2 X2.length V'∧CMap V' m1 nb (X2.foldl st2 c1)∧Wc.grownBy V' (some m1):=by
 obtain ⟨ff,hF1,hF2⟩:=hw.fr
 obtain ⟨ft,hT1,hT2⟩:=hw.to
 have HW:Hid (Web Wc l N vl vn m1 m2 m3):=hw
 obtain ⟨al,cl,hvl,p1,p2,p3,_⟩:=sts_at hw.sts
 have HSt:Hid (IsSts Wc vl l):=hw.sts
 have hmlt:=isMap_lt hw.isM
 have HMp:Hid (isMapB Wc m1):=hw.isM
 have hn2:=hw.ne2
 have hn3:=hw.ne3
 have hfewl:=hw.few
 have Hok:Hid (∀ i,i < l.length→I64 (stA l i).1∧I64 (stA l i).2.1):=fun i hi=>by
  have:=hw.okl _ (stA_mem l i hi)
  exact ⟨this.1,this.2.1⟩
 have HFl:Hid (∀ i∈frL l (inN N) x,i < l.length):=frK_lt l (inN N) l.length x
 have HTl:Hid (∀ i∈toL l (inN N) x,i < l.length):=toK_lt l (inN N) l.length x
 have hiF:=hF2 x
 have hiT:=hT2 x
 rw [hF] at hiF HFl
 rw [hT] at hiT HTl
 have hFlen:F.length≤l.length:=by rw [← hF];exact frK_len l (inN N) l.length x
 have hTlen:T.length≤l.length:=by rw [← hT];exact toK_len l (inN N) l.length x
 have hl1:X1.length=F.length:=by rw [hX1,List.length_map]
 have hl2:X2.length=T.length:=by rw [hX2,List.length_map]
 have HX1:Hid (∀ i (hi:i < F.length) (hi':i < X1.length),X1[i]=(stA l F[i]).2.1):=fun i hi hi'=>by simp [hX1]
 have HX2:Hid (∀ i (hi:i < T.length) (hi':i < X2.length),X2[i]=(stA l T[i]).1):=fun i hi hi'=>by simp [hX2]
 have hbd:=bnd_del hb x
 have hdel:Hid (delV (fun u=>(c u).map cntV) x=fun u=>(c0 u).map cntV):=by rw [← hc0];exact (cmap_del c x).symm
 rw [hc0] at hbd
 have HB1:Hid (∀ i,bndC (s1 c0 X1 i) i (l.length:Int)):=fun i=>by have:=bnd_s1 hbd X1 i;rw [Int.zero_add] at this;exact this
 have HB2:Hid (∀ i,bndC (s2 (X1.foldl st1 c0) X2 i) (X1.length+i) (l.length:Int)):=fun i=>by
  have h1:=bnd_s1 hbd X1 X1.length
  rw [show s1 c0 X1 X1.length=X1.foldl st1 c0 by unfold s1;rw [List.take_length],Int.zero_add] at h1
  exact bnd_s2 h1 X2 i
 rw [hc1] at HB2
 have Hc1:Hid (s1 c0 X1 X1.length=c1):=by show _=_;rw [← hc1];unfold s1;rw [List.take_length]
 have Hc2:Hid (s2 c1 X2 X2.length=X2.foldl st2 c1):=by show _=_;unfold s2;rw [List.take_length]
 have C1:=Lib.hid call1
 have C2:=Lib.hid call2
 have Sk1:=Lib.hid skip1
 have Sk2:=Lib.hid skip2
 have Ke1:=Lib.hid keep1
 have Bo1:=Lib.hid box1
 have Bo2:=Lib.hid box2
 have Ke2:=Lib.hid keep2
 have HJoin:=Lib.hid join
 have HL1:=Lib.hid hl1
 have HL2:=Lib.hid hl2
 have HBd:=Lib.hid hbd
 have hWs:=hg.size
 subst hvl
 obtain ⟨vF,hvF⟩:∃ vF,(ff x).getD nilS=vF:=⟨_,rfl⟩
 obtain ⟨vT,hvT⟩:∃ vT,(ft x).getD nilS=vT:=⟨_,rfl⟩
 rw [hvF] at hiF
 rw [hvT] at hiT
 obtain ⟨aF,cF,rfl,f1,f2,f3,_⟩:=ints_at hiF
 obtain ⟨aT,cT,rfl,t1,t2,t3,_⟩:=ints_at hiT
 have HiF:=Lib.hid hiF
 have HiT:=Lib.hid hiT
 obtain ⟨nl,hnl⟩:∃ nl,l.length=nl:=⟨_,rfl⟩
 have HNl:=Lib.hid hnl
 obtain ⟨nF,hnF⟩:∃ nF,F.length=nF:=⟨_,rfl⟩
 have HNF:=Lib.hid hnF
 obtain ⟨nT,hnT⟩:∃ nT,T.length=nT:=⟨_,rfl⟩
 have HNT:=Lib.hid hnT
 rw [hnF] at hvF f1 f3 hFlen
 rw [hnT] at hvT t1 t3 hTlen
 rw [hnl] at p1 p3 hfewl hFlen hTlen
 rw [hnl]
 have hMa:=VMap.kept hM (World.grownBy_alloc W (.cells (webC (.slice al nl cl) vn m1 m2 m3) tW) none) (by simp)
 have hSa:=SBox.new W tW (webC (.slice al nl cl) vn m1 m2 m3)
 have hga:Wc.grownBy (W.alloc (.cells (webC (.slice al nl cl) vn m1 m2 m3) tW)) (some m1):=hg.trans (World.grownBy_alloc _ _ _)
 have hJa:Hid (J1 0 (W.alloc (.cells (webC (.slice al nl cl) vn m1 m2 m3) tW))):=keep1 0 _ _ h0 (World.grownBy_alloc _ _ _)
 clear call1 call2 skip1 skip2 keep1 keep2 box1 box2 join hl1 hl2 hX1 hX2 hbd hb hc0 hc1 hF2 hT2 hw hF hT hnF hnT hnl hiF hiT h0 hM hg
 go_enter Tryz.func80,Tryz.ntmps80
 have hneW:W.heap.size≠m1:=by omega
 go_wp2_with (first
  | (at_delete;refine wpl_delete _ rfl _ _ tML rfl tC Tryz.underlying106 m1 nb _ rfl hMa x hx rfl ?_;intro wd hMd hgd;rw [hdel.out] at hMd
     have hTd:TkS Wc wd m1 nb W.heap.size (webC (.slice al nl cl) vn m1 m2 m3) c0:=⟨hMd,hga.trans hgd,(hgd.block _ hSa.lt (fun e=>hneW (by simpa using e))).trans hSa⟩
     have HTd:=Lib.hid hTd
     have HJd:Hid (J1 0 wd):=Ke1.out 0 _ _ hJa.out hgd
     have hszd:W.heap.size+1≤wd.heap.size:=by have:=hgd.size;simp at this;omega
     have hF1d:=hF1.kept hTd.gr (fun e=>hn2 (by simpa using e))
     have s2d:=hTd.bx.cell 3 _ rfl
     clear hTd hMd hgd)
  | (at_lookup;refine wpl_look _ rfl _ _ tMI rfl 23 Tryz.underlying107 (zeroS _) m2 _ _ rfl hF1d x hx rfl _ hvF ?_))
 clear hMa hSa hga hJa
 go_loopw [20] (fun i wr=>∃ k:Nat,k≤nF∧i=.int .i64 (k:Int)∧Hid (TkS Wc wr m1 nb W.heap.size (webC (.slice al nl cl) vn m1 m2 m3) (s1 c0 X1 k))∧Hid (J1 k wr)∧W.heap.size+1≤wr.heap.size) (fun i _=>nF - (intOf i).toNat)
 case atStart=>exact ⟨0,Nat.zero_le _,rfl,HTd,HJd,hszd⟩
 case round =>
  obtain ⟨k,hk,rfl,HS,HJ,hsz⟩:=hrel
  by_cases hlt:k < nF
  ·have hkF:k < F.length:=by have:=HNF.out;omega
   have hkX:k < X1.length:=by have:=HL1.out;omega
   have j0:(k:Int) < (nF:Int):=by omega
   have hS:=HS.out
   obtain ⟨aF',cF',ef,_,_,_,HFc⟩:=ints_at (HiF.out.turned intV_len (by omega) HMp.out hS.gr)
   obtain ⟨bF,oF,ea,cellF⟩:=HFc.out k hkF
   obtain ⟨al',cl',el,_,_,_,HLc⟩:=sts_at (HSt.out.turned HMp.out hS.gr)
   have hpl:F[k] < l.length:=HFl.out _ (List.getElem_mem hkF)
   obtain ⟨bL,oL,eb,cell0,cell1⟩:=HLc.out F[k] hpl
   obtain ⟨rfl,rfl⟩:aF=aF'∧cF=cF':=by simpa using ef
   obtain ⟨rfl,rfl⟩:al=al'∧cl=cl':=by simpa using el
   subst ea eb
   have hxk:X1[k]=(stA l F[k]).2.1:=HX1.out k hkF hkX
   have hIx:I64 X1[k]:=by rw [hxk];exact (Hok.out _ hpl).2
   rw [← hxk] at cell1
   have hb0:=hS.bx.cell 0 _ rfl
   have hbw:=hS.bx
   have bw0:=hS.bx.cell 0 _ rfl
   have bw1:=hS.bx.cell 1 _ rfl
   have bw2:=hS.bx.cell 2 _ rfl
   have bw3:=hS.bx.cell 3 _ rfl
   have bw4:=hS.bx.cell 4 _ rfl
   obtain ⟨pl,hpl2⟩:∃ pl,F[k]=pl:=⟨_,rfl⟩
   rw [hpl2] at cellF cell0 cell1 hpl
   have hplN:pl < nl:=by have:=HNl.out;omega
   have jp:(pl:Int) < (nl:Int):=by omega
   have HCk:Hid ((s1 c0 X1 k X1[k]).isSome=true→J1 k wr→True):=fun _ _=>trivial
   have HCall:=Lib.hid (C1.out k hkX)
   have HSkip:=Lib.hid (Sk1.out k hkX)
   obtain ⟨y,hy⟩:∃ y,X1[k]=y:=⟨_,rfl⟩
   have Hy:=Lib.hid hy
   rw [hy] at hIx cell1 HCall HSkip
   have CH:=fun (bo:Bool) (hbo:(s1 c0 X1 k y).isSome=bo)=>phas11_any (.slice (some ⟨bL,oL,none⟩) nl cl) vn m1 m2 m3 nb (s1 c0 X1 k) y wr hIx hS.cm bo hbo
   clear hbw hb0 ef el hxk hpl2 hS
   cases hcy:s1 c0 X1 k y with
   | none =>
     have CH1:=CH false (by rw [hcy];rfl)
     have HS':Hid (s1 c0 X1 (k+1)=s1 c0 X1 k):=by show _=_;exact s1_none c0 X1 k hkX (by rw [Hy.out];exact hcy)
     have HJ':Hid (J1 (k+1) wr):=HSkip.out wr hcy HJ.out
     clear CH hcy
     go_wp2_with fail
     refine CH1.mono ?_
     rintro e w1 ⟨rfl,b1⟩
     have HS1:Hid (TkS Wc w1 m1 nb W.heap.size (webC (.slice (some ⟨bL,oL,none⟩) nl cl) vn m1 m2 m3) (s1 c0 X1 (k+1))):=by show TkS _ _ _ _ _ _ _;rw [HS'.out];exact HS.out.bel b1
     have HJ1:Hid (J1 (k+1) w1):=Ke1.out _ _ _ HJ'.out (grown_below8 _ b1)
     have hsz1:W.heap.size+1≤w1.heap.size:=by have:=b1.size;omega
     go_wp2_with fail
     refine ⟨⟨k+1,by omega,by first | go_num | simp,HS1,HJ1,hsz1⟩,by simp [intOf];omega⟩
   | some p =>
     have CH1:=CH true (by rw [hcy];rfl)
     have hbp:=HB1.out k y p hcy
     have HS':Hid (s1 c0 X1 (k+1)=updC (s1 c0 X1 k) y (p.1 - 1,p.2)):=by
      show _=_
      have:=s1_some c0 X1 k hkX p (by rw [Hy.out];exact hcy)
      rw [Hy.out] at this
      exact this
     have hlX:=HL1.out
     have hnX:=HNF.out
     skip
     have hcy2:=Lib.hid hcy
     clear CH
     go_wp2_with fail
     refine CH1.mono ?_
     rintro e w1 ⟨rfl,b1⟩
     have hS1:=HS.out.bel b1
     have HS1:=Lib.hid hS1
     have HJ1:Hid (J1 k w1):=Ke1.out _ _ _ HJ.out (grown_below8 _ b1)
     have bv0:=hS1.bx.cell 0 _ rfl
     have bv1:=hS1.bx.cell 1 _ rfl
     have bv2:=hS1.bx.cell 2 _ rfl
     have bv3:=hS1.bx.cell 3 _ rfl
     have bv4:=hS1.bx.cell 4 _ rfl
     have CMo:=pmore11_any (.slice (some ⟨bL,oL,none⟩) nl cl) vn m1 m2 m3 nb (s1 c0 X1 k) y w1 hIx hS1.cm p (-1,0) (p.1 - 1,p.2) hcy2.out hnb (by show p.1+-1=p.1 - 1;omega) (by show p.2+0=p.2;omega) (by show I64 (p.1 - 1);exact ⟨by omega,by omega⟩) (by show I64 p.2;exact ⟨by omega,by omega⟩)
     have hsz1:W.heap.size+1≤w1.heap.size:=by have:=b1.size;omega
     clear hS1 hcy hbp
     go_wp2_with fail
     refine CMo.mono ?_
     rintro e w2 ⟨rfl,hm2,g2⟩
     rw [← HS'.out] at hm2
     have hS2:=HS1.out.map hm2 g2 (by omega)
     have HS2:=Lib.hid hS2
     have HJ2:J1 k w2:=Ke1.out _ _ _ HJ1.out g2
     have HVb:Hid (some W.heap.size≠vblk w2 bv):=Bo1.out k w2 _ _ HJ2 hS2.bx
     have hsz2:W.heap.size+1≤w2.heap.size:=by have:=g2.size;omega
     have CC:=HCall.out w2 hS2.gr (by omega) (by rw [hcy2.out];rfl) HJ2 hm2
     clear hS2 HJ2 hm2
     go_wp2_with fail
     refine CC.mono ?_
     rintro e w3 ⟨rfl,hj3,fr3⟩
     have HS3:Hid (TkS Wc w3 m1 nb W.heap.size (webC (.slice (some ⟨bL,oL,none⟩) nl cl) vn m1 m2 m3) (s1 c0 X1 (k+1))):=HS2.out.fr fr3 hmlt (by omega) HVb.out
     have HJ3:=Lib.hid hj3
     have hsz3:W.heap.size+1≤w3.heap.size:=by have:=fr3.bel.size;omega
     clear hj3
     go_wp2_with fail
     refine ⟨⟨k+1,by omega,by first | go_num | simp,HS3,HJ3,hsz3⟩,by simp [intOf];omega⟩
  ·obtain rfl:k=nF:=by omega
   have jq:¬ (k:Int) < (k:Int):=by omega
   have HSe:Hid (TkS Wc wr m1 nb W.heap.size (webC (.slice al nl cl) vn m1 m2 m3) c1):=by show TkS _ _ _ _ _ _ _;rw [← Hc1.out,HL1.out,HNF.out];exact HS.out
   have HTe:Hid (TkS Wc wr m1 nb W.heap.size (webC (.slice al nl cl) vn m1 m2 m3) (s2 c1 X2 0)):=HSe.out
   have HJe:Hid (J2 0 wr):=HJoin.out wr (by rw [HL1.out,HNF.out];exact HJ.out)
   have hT1e:=hT1.kept HSe.out.gr (fun e=>hn3 (by simpa using e))
   have s4e:=HSe.out.bx.cell 4 _ rfl
   go_wp2_with (at_lookup;refine wpl_look _ rfl _ _ tMI rfl 23 Tryz.underlying107 (zeroS _) m3 _ _ rfl hT1e x hx rfl _ hvT ?_)
   go_wp2_with fail
   have hsze:=hsz
   clear hT1e s4e HSe hsz HS HJ
   go_loopw [46] (fun i wr=>∃ k:Nat,k≤nT∧i=.int .i64 (k:Int)∧Hid (TkS Wc wr m1 nb W.heap.size (webC (.slice al nl cl) vn m1 m2 m3) (s2 c1 X2 k))∧Hid (J2 k wr)∧W.heap.size+1≤wr.heap.size) (fun i _=>nT - (intOf i).toNat)
   case atStart=>exact ⟨0,Nat.zero_le _,rfl,HTe,HJe,hsze⟩
   case round =>
    obtain ⟨k,hk,rfl,HS,HJ,hsz⟩:=hrel
    by_cases hlt:k < nT
    ·have hkF:k < T.length:=by have:=HNT.out;omega
     have hkX:k < X2.length:=by have:=HL2.out;omega
     have j0:(k:Int) < (nT:Int):=by omega
     have hS:=HS.out
     obtain ⟨aF',cF',ef,_,_,_,HFc⟩:=ints_at (HiT.out.turned intV_len (by omega) HMp.out hS.gr)
     obtain ⟨bF,oF,ea,cellF⟩:=HFc.out k hkF
     obtain ⟨al',cl',el,_,_,_,HLc⟩:=sts_at (HSt.out.turned HMp.out hS.gr)
     have hpl:T[k] < l.length:=HTl.out _ (List.getElem_mem hkF)
     obtain ⟨bL,oL,eb,cell0,cell1⟩:=HLc.out T[k] hpl
     obtain ⟨rfl,rfl⟩:aT=aF'∧cT=cF':=by simpa using ef
     obtain ⟨rfl,rfl⟩:al=al'∧cl=cl':=by simpa using el
     subst ea eb
     have hxk:X2[k]=(stA l T[k]).1:=HX2.out k hkF hkX
     have hIx:I64 X2[k]:=by rw [hxk];exact (Hok.out _ hpl).1
     rw [← hxk] at cell0
     have hb0:=hS.bx.cell 0 _ rfl
     have hbw:=hS.bx
     have bw0:=hS.bx.cell 0 _ rfl
     have bw1:=hS.bx.cell 1 _ rfl
     have bw2:=hS.bx.cell 2 _ rfl
     have bw3:=hS.bx.cell 3 _ rfl
     have bw4:=hS.bx.cell 4 _ rfl
     obtain ⟨pl,hpl2⟩:∃ pl,T[k]=pl:=⟨_,rfl⟩
     rw [hpl2] at cellF cell0 cell1 hpl
     have hplN:pl < nl:=by have:=HNl.out;omega
     have jp:(pl:Int) < (nl:Int):=by omega
     have HCk:Hid ((s2 c1 X2 k X2[k]).isSome=true→J2 k wr→True):=fun _ _=>trivial
     have HCall:=Lib.hid (C2.out k hkX)
     have HSkip:=Lib.hid (Sk2.out k hkX)
     obtain ⟨y,hy⟩:∃ y,X2[k]=y:=⟨_,rfl⟩
     have Hy:=Lib.hid hy
     rw [hy] at hIx cell0 HCall HSkip
     have CH:=fun (bo:Bool) (hbo:(s2 c1 X2 k y).isSome=bo)=>phas11_any (.slice (some ⟨bL,oL,none⟩) nl cl) vn m1 m2 m3 nb (s2 c1 X2 k) y wr hIx hS.cm bo hbo
     clear hbw hb0 ef el hxk hpl2 hS
     cases hcy:s2 c1 X2 k y with
     | none =>
       have CH1:=CH false (by rw [hcy];rfl)
       have HS':Hid (s2 c1 X2 (k+1)=s2 c1 X2 k):=by show _=_;exact s2_none c1 X2 k hkX (by rw [Hy.out];exact hcy)
       have HJ':Hid (J2 (k+1) wr):=HSkip.out wr hcy HJ.out
       clear CH hcy
       go_wp2_with fail
       refine CH1.mono ?_
       rintro e w1 ⟨rfl,b1⟩
       have HS1:Hid (TkS Wc w1 m1 nb W.heap.size (webC (.slice (some ⟨bL,oL,none⟩) nl cl) vn m1 m2 m3) (s2 c1 X2 (k+1))):=by show TkS _ _ _ _ _ _ _;rw [HS'.out];exact HS.out.bel b1
       have HJ1:Hid (J2 (k+1) w1):=Ke2.out _ _ _ HJ'.out (grown_below8 _ b1)
       have hsz1:W.heap.size+1≤w1.heap.size:=by have:=b1.size;omega
       go_wp2_with fail
       refine ⟨⟨k+1,by omega,by first | go_num | simp,HS1,HJ1,hsz1⟩,by simp [intOf];omega⟩
     | some p =>
       have CH1:=CH true (by rw [hcy];rfl)
       have hbp:=HB2.out k y p hcy
       have HS':Hid (s2 c1 X2 (k+1)=updC (s2 c1 X2 k) y (p.1,p.2 - 1)):=by
        show _=_
        have:=s2_some c1 X2 k hkX p (by rw [Hy.out];exact hcy)
        rw [Hy.out] at this
        exact this
       have hlX:=HL2.out
       have hnX:=HNT.out
       have hl1X:=HL1.out;have hn1X:=HNF.out
       have hcy2:=Lib.hid hcy
       clear CH
       go_wp2_with fail
       refine CH1.mono ?_
       rintro e w1 ⟨rfl,b1⟩
       have hS1:=HS.out.bel b1
       have HS1:=Lib.hid hS1
       have HJ1:Hid (J2 k w1):=Ke2.out _ _ _ HJ.out (grown_below8 _ b1)
       have bv0:=hS1.bx.cell 0 _ rfl
       have bv1:=hS1.bx.cell 1 _ rfl
       have bv2:=hS1.bx.cell 2 _ rfl
       have bv3:=hS1.bx.cell 3 _ rfl
       have bv4:=hS1.bx.cell 4 _ rfl
       have CMo:=pmore11_any (.slice (some ⟨bL,oL,none⟩) nl cl) vn m1 m2 m3 nb (s2 c1 X2 k) y w1 hIx hS1.cm p (0,-1) (p.1,p.2 - 1) hcy2.out hnb (by show p.1+0=p.1;omega) (by show p.2+-1=p.2 - 1;omega) (by show I64 p.1;exact ⟨by omega,by omega⟩) (by show I64 (p.2 - 1);exact ⟨by omega,by omega⟩)
       have hsz1:W.heap.size+1≤w1.heap.size:=by have:=b1.size;omega
       clear hS1 hcy hbp
       go_wp2_with fail
       refine CMo.mono ?_
       rintro e w2 ⟨rfl,hm2,g2⟩
       rw [← HS'.out] at hm2
       have hS2:=HS1.out.map hm2 g2 (by omega)
       have HS2:=Lib.hid hS2
       have HJ2:J2 k w2:=Ke2.out _ _ _ HJ1.out g2
       have HVb:Hid (some W.heap.size≠vblk w2 bv):=Bo2.out k w2 _ _ HJ2 hS2.bx
       have hsz2:W.heap.size+1≤w2.heap.size:=by have:=g2.size;omega
       have CC:=HCall.out w2 hS2.gr (by omega) (by rw [hcy2.out];rfl) HJ2 hm2
       clear hS2 HJ2 hm2
       go_wp2_with fail
       refine CC.mono ?_
       rintro e w3 ⟨rfl,hj3,fr3⟩
       have HS3:Hid (TkS Wc w3 m1 nb W.heap.size (webC (.slice (some ⟨bL,oL,none⟩) nl cl) vn m1 m2 m3) (s2 c1 X2 (k+1))):=HS2.out.fr fr3 hmlt (by omega) HVb.out
       have HJ3:=Lib.hid hj3
       have hsz3:W.heap.size+1≤w3.heap.size:=by have:=fr3.bel.size;omega
       clear hj3
       go_wp2_with fail
       refine ⟨⟨k+1,by omega,by first | go_num | simp,HS3,HJ3,hsz3⟩,by simp [intOf];omega⟩
    ·obtain rfl:k=nT:=by omega
     have jq:¬ (k:Int) < (k:Int):=by omega
     have HSe:Hid (CMap wr m1 nb (X2.foldl st2 c1)):=by show CMap _ _ _ _;rw [← Hc2.out,HL2.out,HNT.out];exact HS.out.cm
     have HJe:Hid (J2 X2.length wr):=by show J2 _ _;rw [HL2.out,HNT.out];exact HJ.out
     have HGe:Hid (Wc.grownBy wr (some m1)):=HS.out.gr
     go_wp2_with fail
     go_end0
     exact ⟨rfl,HJe.out,HSe.out,HGe.out⟩
theorem ptake11_any (Wc W:World) (l:List Stp) (N:List Int) (vl vn:Value) (m1 m2 m3 nb:Nat) (hw:Web Wc l N vl vn m1 m2 m3) (c:Cnt) (hM:CMap W m1 nb c) (hnb:nb < 9223372036854775807) (hg:Wc.grownBy W (some m1)) (x:Int) (hx:I64 x) (hb:bndC c 0 (l.length:Int))
 (K:Nat) (hK:∀ args V,(callFunc K args).run Tryz.prog V=.ok (.enter K args) V) (caps:Array Value) (bv:Nat) (hbv:bv < W.heap.size) (J1 J2:Nat→World→Prop) (h0:J1 0 W)
 (box1:∀ i V b cs,J1 i V→SBox V b tW cs→some b≠vblk V bv)
 (keep1:∀ i V V',J1 i V→V.grownBy V' (some m1)→J1 i V')
 (call1:∀ i (hi:i < (outX l (inN N) x).length) V,Wc.grownBy V (some m1)→W.heap.size≤V.heap.size→(s1 (delC c x) (outX l (inN N) x) i (outX l (inN N) x)[i]).isSome=true→J1 i V→CMap V m1 nb (s1 (delC c x) (outX l (inN N) x) (i+1)) →
  Calls Tryz.prog K (#[.int .i64 (outX l (inN N) x)[i]]++caps) V fun e V'=>e=.returned (.tuple #[])∧J1 (i+1) V'∧Fr Wc.heap.size bv V V')
 (skip1:∀ i (hi:i < (outX l (inN N) x).length) V,s1 (delC c x) (outX l (inN N) x) i (outX l (inN N) x)[i]=none→J1 i V→J1 (i+1) V)
 (join:∀ V,J1 (outX l (inN N) x).length V→J2 0 V)
 (box2:∀ i V b cs,J2 i V→SBox V b tW cs→some b≠vblk V bv)
 (keep2:∀ i V V',J2 i V→V.grownBy V' (some m1)→J2 i V')
 (call2:∀ i (hi:i < (inX l (inN N) x).length) V,Wc.grownBy V (some m1)→W.heap.size≤V.heap.size→(s2 ((outX l (inN N) x).foldl st1 (delC c x)) (inX l (inN N) x) i (inX l (inN N) x)[i]).isSome=true→J2 i V→CMap V m1 nb (s2 ((outX l (inN N) x).foldl st1 (delC c x)) (inX l (inN N) x) (i+1)) →
  Calls Tryz.prog K (#[.int .i64 (inX l (inN N) x)[i]]++caps) V fun e V'=>e=.returned (.tuple #[])∧J2 (i+1) V'∧Fr Wc.heap.size bv V V')
 (skip2:∀ i (hi:i < (inX l (inN N) x).length) V,s2 ((outX l (inN N) x).foldl st1 (delC c x)) (inX l (inN N) x) i (inX l (inN N) x)[i]=none→J2 i V→J2 (i+1) V) :
 Calls Tryz.prog 80 #[webV vl vn m1 m2 m3,.int .i64 x,.func (.func K) #[] caps] W fun e V'=>e=.returned (.tuple #[])∧J2 (inX l (inN N) x).length V'∧CMap V' m1 nb (takeF l (inN N) c x)∧Wc.grownBy V' (some m1):=by
 exact ptake_in Wc W l N vl vn m1 m2 m3 nb hw c hM hnb hg x hx hb K hK caps bv hbv J1 J2 h0 _ _ _ _ _ _ rfl rfl rfl rfl rfl rfl box1 keep1 call1 skip1 join box2 keep2 call2 skip2
end Go.Proofs.YtiihegldhnlleaaGreat
