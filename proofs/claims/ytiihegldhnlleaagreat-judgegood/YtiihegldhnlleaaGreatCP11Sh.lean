/-
  What (ring.web).shortest answers.
-/
import Derived.Test.YtiihegldhnlleaaGreatCL2a
import Derived.WalkMore
namespace Go.Proofs.YtiihegldhnlleaaGreat
set_option maxRecDepth 100000
open Go.RowKit Go.Maps
set_option linter.unusedVariables false
attribute [local go_sem] ba_size
def ShRes (V:World) (l:List Stp) (N:List Int) (S:Int→Bool) (start:Int) (most:Nat) (e:Ending) (V':World):Prop :=
 ∃ (ma many:Nat) (Q:List (Int × Nat)),e=.returned (.tuple #[.map (some ma),.int .i64 (many:Int)])∧Below V.heap.size V V'∧VMap V' ma Q.length (awV Q)∧V.heap.size≤ma∧ShOk l S start most many (aw Q)∧many≤N.length
theorem bfs_len {l:List Stp} {S:Int→Bool} {start:Int} {Q:List (Int × Nat)} {i:Nat} (h:Bfs l S start Q i) (N:List Int) (hSN:∀ x,S x=true→x∈N):Q.length≤N.length:=by
 have:=List.Nodup.length_le_of_subset h.nd (l₂:=N) fun x hx=>by
  obtain ⟨p,hp,rfl⟩:=List.mem_map.1 hx
  exact hSN _ (h.wk p hp).1
 simpa using this
def dB (Q:List (Int × Nat)):Prop:=∀ j (hj:j < Q.length),Q[j].2≤j
theorem dB_push {Q:List (Int × Nat)} (h:dB Q) (i:Nat) (hi:i < Q.length) (x:Int):dB (Q++[(x,Q[i].2+1)]):=by
 intro j hj
 rcases Nat.lt_or_ge j Q.length with h1 | h1
 ·rw [List.getElem_append_left h1];exact h j h1
 ·have:j=Q.length:=by simp at hj;omega
  subst this
  simp
  have:=h i hi
  omega
set_option maxHeartbeats 8000000 in
theorem pshort11_any (Wc V:World) (l:List Stp) (N:List Int) (vl vn:Value) (m1 m2 m3:Nat) (hw:Web Wc l N vl vn m1 m2 m3) (S:Int→Bool) (hSN:∀ y,S y=true→y∈N) (hM:CMap V m1 17592186044416 (cntF l S)) (hg:Wc.grownBy V (some m1)) (start:Int) (hst:S start=true) (most:Nat) (hmost:most≤17592186044416) (hNf:N.length≤7036874417560) :
 Calls Tryz.prog 86 #[webV vl vn m1 m2 m3,.int .i64 start,.int .i64 (most:Int)] V fun e V'=>ShRes V l N S start most e V':=by
 have hmm:=@run_makeMap Tryz.prog
 have HW:=Lib.hid hw
 obtain ⟨al,cl,hvl,_⟩:=sts_at hw.sts
 obtain ⟨an,cn,hvn,_⟩:=hw.nums.some_at
 have hIs:I64 start:=hw.okN start (hSN start hst)
 have HM:=Lib.hid hM
 have Hg:=Lib.hid hg
 have HSN:=Lib.hid hSN
 obtain ⟨b0,hb0⟩:∃ b0,V.heap.size=b0:=⟨_,rfl⟩
 have hcS:∀ y,(cntF l S y).isSome=S y:=fun y=>by unfold cntF;cases S y<;>rfl
 obtain ⟨V4,hV4⟩:∃ V4,(((V.alloc (.cells (webC vl vn m1 m2 m3) tW)).alloc (.map #[] 0)).alloc (.cells #[.map (some (b0+1))] tMM)).alloc (.cells #[.slice none 0 0] tI)=V4:=⟨_,rfl⟩
 have hS4:ShS V V4 b0 (webC vl vn m1 m2 m3) []:=by
  rw [← hV4]
  refine ⟨?_,hb0,?_,?_,?_,Nat.le_refl _,.slice none 0 0,?_,World.ownsRow_nil _ _ _ _⟩
  ·exact ((((Below.refl V.heap.size V).alloc (Nat.le_refl _) _).alloc (by simp) _).alloc (by simp;omega) _).alloc (by simp;omega) _
  ·rw [← hb0];exact (((SBox.new V tW _).alloc _).alloc _).alloc _
  ·have:=(Boxed.new ((V.alloc (.cells (webC vl vn m1 m2 m3) tW)).alloc (.map #[] 0)) tMM (.map (some (b0+1)))).alloc (.cells #[.slice none 0 0] tI)
   simpa [hb0] using this
  ·have h1:=VMap.made (V.alloc (.cells (webC vl vn m1 m2 m3) tW))
   have h2:=(h1.kept (World.grownBy_alloc _ (.cells #[.map (some (b0+1))] tMM) none) (by simp)).kept (World.grownBy_alloc _ (.cells #[.slice none 0 0] tI) none) (by simp)
   have e:awV []=fun _=>none:=by funext x;rfl
   rw [e]
   simpa [hb0] using h2
  ·have:=Boxed.new (((V.alloc (.cells (webC vl vn m1 m2 m3) tW)).alloc (.map #[] 0)).alloc (.cells #[.map (some (b0+1))] tMM)) tI (.slice none 0 0)
   simpa [hb0] using this
 have hM4:=hM.bel hS4.bl hM.lt
 have CR:=preach11_any V V4 vl vn m1 m2 m3 17592186044416 b0 S (cntF l S) hcS [] hS4 hM4 start hIs 0 (by simp) ⟨al,_,cl,hvl⟩ ⟨an,_,cn,hvn⟩
 have hR0:reachQ S [] start 0=[(start,0)]:=by unfold reachQ;rw [if_pos ⟨rfl,hst⟩];rfl
 rw [hR0] at CR
 have HCr:=Lib.hid (fun (W:World) (Q:List (Int × Nat)) (hS:ShS V W b0 (webC vl vn m1 m2 m3) Q) (x:Int) (hx:I64 x) (d:Nat) (hQ:Q.length < 17592186043904)=>preach11_any V W vl vn m1 m2 m3 17592186044416 b0 S (cntF l S) hcS Q hS (hM.bel hS.bl hM.lt) x hx d hQ ⟨al,_,cl,hvl⟩ ⟨an,_,cn,hvn⟩)
 have Hst:=Lib.hid hst
 obtain ⟨nl,hnl⟩:∃ nl,l.length=nl:=⟨_,rfl⟩
 obtain ⟨nN,hnN⟩:∃ nN,N.length=nN:=⟨_,rfl⟩
 have HNl:=Lib.hid hnl
 have HNN:=Lib.hid hnN
 subst hvl hvn
 rw [hnl,hnN] at CR HCr HW hV4
 rw [hnl,hnN]
 rw [hnN] at hNf
 clear hS4 hM4 hR0 hcS hw hM hg hSN hst hnl hnN
 go_enter Tryz.func86,Tryz.ntmps86
 go_wp2_with fail
 go_step3
 go_wp2_with fail
 refine CR.mono ?_
 rintro e W5 ⟨rfl,hS5⟩
 have HS5:=Lib.hid hS5
 clear hS5 CR
 go_wp2_with fail
 go_step3
 go_wp2_with fail
 have HT1:Hid (∃ ft,(∀ W,Below V.heap.size V W→VMap W m3 17592186044416 ft)∧∀ x W,Below V.heap.size V W→IsInts W ((ft x).getD nilS) ((toL l (inN N) x).map Int.ofNat)):=by
  obtain ⟨ft,h1,h2⟩:=GMap.turned HW.out.isM Hg.out HW.out.ne3 HW.out.to
  exact ⟨ft,fun W hW=>h1.bel hW h1.lt,fun x W hW=>(h2 x).below hW⟩
 have HSt:Hid (∀ W,Below V.heap.size V W→IsSts W (.slice al nl cl) l):=fun W hW=>(HW.out.sts.turned HW.out.isM Hg.out).below hW
 have Hok:Hid (∀ i,i < l.length→I64 (stA l i).1):=fun i hi=>(HW.out.okl _ (stA_mem l i hi)).1
 have HsS:Hid (∀ y,S y=true→inN N y=true):=fun y hy=>by unfold inN;simpa using HSN.out y hy
 go_loopg [11,12] nN (fun g mv iv wr=>∃ (i:Nat) (Q:List (Int × Nat)),mv=.int .i64 0∧iv=.int .i64 (i:Int)∧Hid (ShS V wr b0 (webC (.slice al nl cl) (.slice an nN cn) m1 m2 m3) Q)∧Hid (Bfs l S start Q i)∧Hid (dB Q)∧Hid (∀ hi:i < Q.length,most=0∨Q[i].2+1≤most)∧i≤nN∧nN - i≤g)
 case atStart=>exact ⟨0,[(start,0)],rfl,rfl,HS5,bfs_start l S start Hst.out,(fun j hj=>by simp at hj;subst hj;exact Nat.le_refl _),(fun hi=>by simp;omega),Nat.zero_le _,by omega⟩
 case round =>
  obtain ⟨i,Q,rfl,rfl,HS,HB,HD,HMo,hiN,hgg⟩:=hrel
  have hS:=HS.out
  have hQN:Q.length≤N.length:=bfs_len HB.out N HSN.out
  obtain ⟨hB9,vv,hbx,hrow⟩:=hS.vr
  obtain ⟨ad,cc,rfl⟩:=own_shape11 hrow
  have hlQ:(Q.map (·.1)).length=Q.length:=List.length_map ..
  obtain ⟨lq,hlq⟩:∃ lq,Q.length=lq:=⟨_,rfl⟩
  have Hlq:=Lib.hid hlq
  rw [hlQ,hlq] at hbx hrow
  rw [hlq,HNN.out] at hQN
  have p0:=hbx.cell
  have a0:=hS.ab.cell
  by_cases hlt:i < lq
  ·have j0:(i:Int) < (lq:Int):=by omega
   have hiQ:i < Q.length:=by have:=Hlq.out;omega
   obtain ⟨g9,ea,cellx⟩:=own_at11 hrow i hlt
   subst ea
   have ex:(Q.map (·.1)).getD i 0=Q[i].1:=by simp [hiQ]
   rw [ex] at cellx
   have hxS:S Q[i].1=true:=(HB.out.wk _ (List.getElem_mem hiQ)).1
   have hIx:I64 Q[i].1:=HW.out.okN _ (HSN.out _ hxS)
   have haw:aw Q Q[i].1=some Q[i].2:=(aw_some HB.out.nd _ _).2 (List.getElem_mem hiQ)
   have hdi:=HD.out i hiQ
   have hmi:=HMo.out hiQ
   have Hsame:Hid (∀ W:World,W.heap=wr.heap→W.cell?=wr.cell?):=fun W hW=>by funext p;simp [World.cell?,hW]
   obtain ⟨ft,hT1,hT2⟩:=HT1.out
   have HT1':=Lib.hid hT1
   have hiT:=hT2 Q[i].1 V (Below.refl _ _)
   have HT2':=Lib.hid (hT2 Q[i].1)
   obtain ⟨aT,cT,hvT,t1,t2,t3,_⟩:=ints_at hiT
   have hvT':(ft Q[i].1).getD (.slice none 0 0)=.slice aT (toL l (inN N) Q[i].1).length cT:=hvT
   rw [hvT] at HT2'
   have HPt:=Lib.hid (bfsP_start (S0:=inN N) HB.out hiQ)
   obtain ⟨x,d,hxd⟩:∃ x d,Q[i]=(x,d):=⟨Q[i].1,Q[i].2,rfl⟩
   have Hxd:=Lib.hid hxd
   rw [hxd] at cellx hxS hIx haw hdi hmi hvT' HT2' t1 t3
   simp only at cellx hxS hIx haw hdi hmi hvT' HT2' t1 t3
   have hvd:(awV Q x).getD (.int .i64 0)=.int .i64 (d:Int):=by unfold awV;rw [haw];rfl
   have q1:∀ n,(Instr.lookup tMM (.map (some (b0+1))) (.int .i64 x) false).run Tryz.prog (wr.drewN n)=.ok (.int .i64 (d:Int)) (wr.drewN n):=fun n=>vlook_run (VMap.same hS.am (by rfl)) Tryz.underlying97 (zeroI _) x hIx _ hvd
   obtain ⟨nT,hnT⟩:∃ nT,(toL l (inN N) x).length=nT:=⟨_,rfl⟩
   have HnT:=Lib.hid hnT
   have hTl:nT≤nl:=by rw [← hnT,← HNl.out];exact toK_len l (inN N) l.length x
   rw [hnT] at hvT' HT2' t1 t3
   have hfl:=HW.out.few
   rw [HNl.out] at hfl
   have zd:IntKind.i64.wrap ((d:Int)+1)=(d:Int)+1:=by rw [IntKind.wrap_i64];omega
   clear hS hbx hrow hxd haw ex hlQ hlq hiT hvT hT1 hT2 hnT
   go_wp2_with fail
   go_quiet (fail)
   generalize hwq:wr.drewN _=wq
   have hSq:ShS V wq b0 (webC (.slice al nl cl) (.slice an nN cn) m1 m2 m3) Q:=by rw [← hwq];exact HS.out.bel (below_drewN (Below.refl _ _) _)
   have HSq:=Lib.hid hSq
   have hVq:VMap wq m3 17592186044416 ft:=HT1'.out wq hSq.bl
   have q2:∀ n,(Instr.lookup tMI (.map (some m3)) (.int .i64 x) false).run Tryz.prog (wq.drewN n)=.ok (.slice aT nT cT) (wq.drewN n):=fun n=>vlook_run (VMap.same hVq (by rfl)) Tryz.underlying107 (zeroS _) x hIx _ hvT'
   obtain ⟨hB8,vv8,hbx8,hrow8⟩:=hSq.vr
   have a8:=hSq.ab.cell
   have ebx:wq.heap=wr.heap:=by rw [← hwq];rfl
   have p8:wq.cell? ⟨b0+1+1+1,0,none⟩=some (.slice (some ⟨g9,0,none⟩) lq cc):=by rw [Hsame.out wq ebx];exact p0
   have c8:wq.cell? ⟨g9,i,none⟩=some (.int .i64 x):=by rw [Hsame.out wq ebx];exact cellx
   have u4:=hSq.bx.cell 4 _ rfl
   clear hSq hbx8 hrow8 hVq ebx hwq q1 p0 a0 cellx
   by_cases hmo:d+1=most
   ·have em:((d:Int)+1==(most:Int))=true:=by simp;omega
    have HR:Hid (ShOk l S start most 0 (aw Q)):=bfs_most HB.out hiQ (by have:=Hxd.out;rw [this];exact hmo)
    go_wp2_with fail
    (try rw [Exit.noGoto_ret])
    go_ret2
    exact ⟨b0+1,0,Q,rfl,HSq.out.bl,HSq.out.am,by omega,HR.out,Nat.zero_le _⟩
   ·have em:((d:Int)+1==(most:Int))=false:=by simp;omega
    have Hmo:=Lib.hid hmo
    clear hmo
    go_wp2_with fail
    go_quiet (fail)
    generalize hwz:wq.drewN _=wz
    have HSz:Hid (ShS V wz b0 (webC (.slice al nl cl) (.slice an nN cn) m1 m2 m3) Q):=by rw [← hwz];exact HSq.out.bel (below_drewN (Below.refl _ _) _)
    clear hwz q2 a8 p8 c8 u4 HSq HS
    go_wp2_with fail
    go_loopg [11,45] nT (fun h mv ev wr=>∃ (e:Nat) (Q2:List (Int × Nat)),mv=.int .i64 0∧ev=.int .i64 (e:Int)∧e≤nT∧nT - e≤h∧Hid (ShS V wr b0 (webC (.slice al nl cl) (.slice an nN cn) m1 m2 m3) Q2)∧Hid (∃ hi:i < Q2.length,Q2[i]=(x,d)∧BfsP l S (inN N) start Q2 i e)∧Hid (dB Q2))
    case atStart=>exact ⟨0,Q,rfl,rfl,Nat.zero_le _,by omega,HSz,⟨hiQ,Hxd.out,HPt.out⟩,HD⟩
    case round =>
     obtain ⟨e,Q2,rfl,rfl,heT,hgh,HS2,HP2,HD2⟩:=hrel
     have hS2:=HS2.out
     obtain ⟨hi2,hQi,hBP⟩:=HP2.out
     by_cases hle:e < nT
     ·have j1:(e:Int) < (nT:Int):=by omega
      have heT2:e < (toL l (inN N) x).length:=by have:=HnT.out;omega
      obtain ⟨aT',cT',eT,_,_,_,HFc⟩:=ints_at (HT2'.out wr hS2.bl)
      obtain ⟨bT,oT,ea,cellT⟩:=HFc.out e heT2
      have hpl:(toL l (inN N) x)[e] < l.length:=toK_lt l (inN N) l.length x _ (List.getElem_mem heT2)
      obtain ⟨al',cl',el,_,_,_,HLc⟩:=sts_at (HSt.out wr hS2.bl)
      obtain ⟨bL,oL,eb,cell0,_⟩:=HLc.out _ hpl
      obtain ⟨rfl,rfl⟩:aT=aT'∧cT=cT':=by
       have hh:=HnT.out
       simpa [hh] using eT
      obtain ⟨rfl,rfl⟩:al=al'∧cl=cl':=by
       have hh:=HNl.out
       simpa [hh] using el
      subst ea eb
      have hIy:=Hok.out _ hpl
      have hsk:=fun (hne:(stA l (toL l (inN N) x)[e]).1≠start) (hk:aw Q2 (stA l (toL l (inN N) x)[e]).1≠none∨S (stA l (toL l (inN N) x)[e]).1=false)=>(show BfsP l S (inN N) start Q2 i (e+1) from by
       have hx1:Q2[i].1=x:=by rw [hQi]
       refine hBP.skip (by rw [hx1];exact heT2) ?_ ?_
       ·simp only [hx1];exact hne
       ·simp only [hx1];exact hk)
      have hpu:=fun (hne:(stA l (toL l (inN N) x)[e]).1≠start) (hk:aw Q2 (stA l (toL l (inN N) x)[e]).1=none) (hSy:S (stA l (toL l (inN N) x)[e]).1=true)=>(show BfsP l S (inN N) start (Q2++[((stA l (toL l (inN N) x)[e]).1,d+1)]) i (e+1) from by
       have hx1:Q2[i].1=x:=by rw [hQi]
       have hx2:Q2[i].2=d:=by rw [hQi]
       have:=hBP.push (by rw [hx1];exact heT2) (by simp only [hx1];exact hne) (by simp only [hx1];exact hk) (by simp only [hx1];exact hSy)
       simp only [hx1,hx2] at this
       exact this)
      have hfo:=fun (he:(stA l (toL l (inN N) x)[e]).1=start) (hm:most=0∨d+1 < most)=>(show ShOk l S start most (d+1) (aw Q2) from by
       have hx1:Q2[i].1=x:=by rw [hQi]
       have hx2:Q2[i].2=d:=by rw [hQi]
       have:=bfs_found hBP (by rw [hx1];exact heT2) (by simp only [hx1];exact he) Hst.out (by rw [hx2];exact hm)
       rw [hx2] at this
       exact this)
      have Hsk:=Lib.hid hsk
      have Hpu:=Lib.hid hpu
      have Hfo:=Lib.hid hfo
      have hQ2N:Q2.length≤N.length:=bfs_len hBP.b N HSN.out
      have HdP:Hid (∀ y,dB (Q2++[(y,d+1)])):=fun y=>by
       have:=dB_push HD2.out i hi2 y
       rw [hQi] at this
       exact this
      obtain ⟨y,hy⟩:∃ y,(stA l (toL l (inN N) x)[e]).1=y:=⟨_,rfl⟩
      rw [hy] at cell0 hIy Hsk Hpu Hfo
      obtain ⟨pl,hpl2⟩:∃ pl,(toL l (inN N) x)[e]=pl:=⟨_,rfl⟩
      rw [hpl2] at cellT cell0 hpl
      have jp:(pl:Int) < (nl:Int):=by have:=HNl.out;omega
      have CRy:=HCr.out wr Q2 hS2 y hIy (d+1) (by have:=HNN.out;omega)
      have ed:((d+1:Nat):Int)=(d:Int)+1:=by omega
      rw [ed] at CRy
      have u0:=hS2.bx.cell 0 _ rfl
      have Hi2:=Lib.hid hi2
      have HQi:=Lib.hid hQi
      clear hS2 hsk hpu hfo hy hpl2 hBP hQi eT el ed
      by_cases hys:y=start
      ·subst hys
       have HR:Hid (ShOk l S y most (d+1) (aw Q2)):=Hfo.out rfl (by have:=Hmo.out;omega)
       have hmanyN:d+1≤N.length:=by have:=HNN.out;omega
       have Hmany:=Lib.hid hmanyN
       have a9:=HS2.out.ab.cell
       clear hmanyN
       go_wp2_with fail
       (try rw [Exit.noGoto_ret])
       go_ret2
       exact ⟨b0+1,d+1,Q2,by first | rfl | (simp;done) | (congr 3),HS2.out.bl,HS2.out.am,by omega,HR.out,Hmany.out⟩
      ·have ey:(y==start)=false:=by simp [hys]
       go_wp2_with fail
       refine CRy.mono ?_
       rintro ee w6 ⟨rfl,hS6⟩
       have HS6:=Lib.hid hS6
       clear hS6
       by_cases hrq:aw Q2 y=none∧S y=true
       ·have hR:reachQ S Q2 y (d+1)=Q2++[(y,d+1)]:=by unfold reachQ;rw [if_pos hrq]
        rw [hR] at HS6
        have HP6:Hid (∃ hi:i < (Q2++[(y,d+1)]).length,(Q2++[(y,d+1)])[i]=(x,d)∧BfsP l S (inN N) start (Q2++[(y,d+1)]) i (e+1)):=by
         have h2:=Hi2.out
         refine ⟨by simp;omega,?_,Hpu.out hys hrq.1 hrq.2⟩
         rw [List.getElem_append_left h2]
         exact HQi.out
        clear hrq hR
        go_wp2_with fail
        go_roundg (nT - (e+1))
        case measure=>omega
        case rel=>exact ⟨e+1,_,rfl,by first | go_num | simp,by omega,Nat.le_refl _,HS6,HP6,HdP.out y⟩
       ·have hR:reachQ S Q2 y (d+1)=Q2:=by unfold reachQ;rw [if_neg hrq]
        rw [hR] at HS6
        have HP6:Hid (∃ hi:i < Q2.length,Q2[i]=(x,d)∧BfsP l S (inN N) start Q2 i (e+1)):=⟨Hi2.out,HQi.out,Hsk.out hys (by
         cases ha:aw Q2 y with
         | some _=>exact .inl (by simp)
         | none =>
           refine .inr ?_
           cases hs:S y with
           | false=>rfl
           | true=>exact absurd ⟨ha,hs⟩ hrq)⟩
        clear hrq hR
        go_wp2_with fail
        go_roundg (nT - (e+1))
        case measure=>omega
        case rel=>exact ⟨e+1,_,rfl,by first | go_num | simp,by omega,Nat.le_refl _,HS6,HP6,HD2⟩
     ·obtain rfl:nT=e:=by omega
      have jq:¬ (nT:Int) < (nT:Int):=by omega
      have HBn:Hid (Bfs l S start Q2 (i+1)):=BfsP.next hi2 (by rw [hQi];show BfsP l S (inN N) start Q2 i (toL l (inN N) x).length;rw [HnT.out];exact hBP) HsS.out
      have HMn:Hid (∀ hi:i+1 < Q2.length,most=0∨Q2[i+1].2+1≤most):=fun hi=>by
       have h1:=hBP.b.up hi2 _ (List.getElem_mem hi)
       rw [hQi] at h1
       simp only at h1
       have:=Hmo.out
       omega
      clear hS2 hBP hQi
      go_wp2_with fail
      go_roundg (nN - (i+1))
      case measure=>omega
      case rel=>exact ⟨i+1,Q2,rfl,by first | go_num | simp,HS2,HBn,HD2,HMn,by omega,Nat.le_refl _⟩
  ·have jn:¬ (i:Int) < (lq:Int):=by omega
   have HR:Hid (ShOk l S start most 0 (aw Q)):=bfs_all HB.out (by have:=Hlq.out;omega) most
   clear hS hbx hrow
   go_wp2_with fail
   (try rw [Exit.noGoto_ret])
   go_ret2
   exact ⟨b0+1,0,Q,rfl,HS.out.bl,HS.out.am,by omega,HR.out,Nat.zero_le _⟩
end Go.Proofs.YtiihegldhnlleaaGreat
