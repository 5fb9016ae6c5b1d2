/-
  The walk of LeanLess.
-/
import Derived.Test.YthamoeekiglphaaGreatDoorCShown15
namespace Go.Proofs.YthamoeekiglphaaGreatDoor
set_option maxRecDepth 100000
open Go.RowKit Go.Maps
set_option linter.unusedVariables false
attribute [local go_sem] ba_size
def rdF (p:Pf):Bool:=p.2.1.1==2
theorem rd_next (L:List Pf) (k:Nat) (hk:k < L.length):(L.take (k+1)).filter rdF=(L.take k).filter rdF++(cond (rdF L[k]) [L[k]] []):=by
 rw [List.take_succ_eq_append_getElem hk,List.filter_append]
 congr 1
theorem pfs_one15 {w:World} {L':List PVt} {L:List Pf} (h:PfOf w L' L):∀ u∈recV pfV L',u.oneCell'=true:=by
 intro u hu
 obtain ⟨x,hx,hu⟩:=List.mem_flatMap.1 hu
 obtain ⟨i,hi,rfl⟩:=List.getElem_of_mem hx
 have hi2:i < L.length:=by rw [← h.1];exact hi
 obtain ⟨a,n,c,hv,_⟩:=(h.2 i _ _ (List.getElem?_eq_getElem hi) (List.getElem?_eq_getElem hi2)).path
 simp only [pfV,List.mem_cons,List.not_mem_nil,or_false] at hu
 rcases hu with rfl | rfl | rfl | rfl | rfl | rfl
 ·rfl
 ·rfl
 ·rfl
 ·rfl
 ·rfl
 ·rw [hv];rfl
structure KS (w V:World) (B5 B6:Nat) (cb ce:Array Value) (vk:Value) (M:List Pf):Prop where
 bel:Below w.heap.size w V
 b5:SBox V B5 24 cb
 b6:SBox V B6 32 ce
 row:∃ M':List PVt,V.ownsRow w.heap.size 55 6 vk M'.length (recV pfV M')∧PfOf w M' M
theorem KS.below {w V V':World} {B5 B6:Nat} {cb ce:Array Value} {vk:Value} {M:List Pf} (h:KS w V B5 B6 cb ce vk M) (hb:Below V.heap.size V V'):KS w V' B5 B6 cb ce vk M:=by
 obtain ⟨M',r1,r2⟩:=h.row
 exact ⟨bel_trans h.bel hb,h.b5.below hb,h.b6.below hb,M',owns_below r1 hb,r2⟩
theorem KS.len {w V:World} {B5 B6:Nat} {cb ce:Array Value} {vk:Value} {M:List Pf} (h:KS w V B5 B6 cb ce vk M):∃ a c,vk=.slice a M.length c:=by
 obtain ⟨M',r1,r2⟩:=h.row
 rw [r2.1] at r1
 exact owns_slice15 r1
theorem KS.pfs {w V:World} {B5 B6:Nat} {cb ce:Array Value} {vk:Value} {M:List Pf} (h:KS w V B5 B6 cb ce vk M) (hm:M.length≤1000):IsPfs V vk M:=by
 obtain ⟨M',r1,r2⟩:=h.row
 exact ⟨M',IsRec.own pfV_len (by omega) r1 (by rw [r2.1];omega),r2.below h.bel⟩
theorem KS.grow {w V V':World} {B5 B6:Nat} {cb ce:Array Value} {vk vn:Value} {M:List Pf} (h:KS w V B5 B6 cb ce vk M) {M1:List PVt} (hr:V.ownsRow w.heap.size 55 6 vk M1.length (recV pfV M1)) (hg:V.grownBy V' vk.ownBlock) {N':List PVt} {N:List Pf} (hn:V'.ownsRow w.heap.size 55 6 vn N'.length (recV pfV N')) (hp:PfOf w N' N):KS w V' B5 B6 cb ce vn N :=
 ⟨h.bel.grown hg h.bel.size (fun j hj=>(hr.lt j hj).1),(hg.block _ h.b5.lt (block_not_row h.b5 (by decide) hr)).trans h.b5,(hg.block _ h.b6.lt (block_not_row h.b6 (by decide) hr)).trans h.b6,N',hn,hp⟩
set_option maxHeartbeats 8000000 in
theorem less15_walk (C:P15C) (w:World) (hGl:G w) (l m:List Pf) (vl vm:Value) (Al:IsPfs w vl l) (Am:IsPfs w vm m) (b0 b1 b2 e0 e1 e2 e3 e4:Int) :
 Calls Tryz.prog 7 #[.agg #[vl,vm,.int .i64 b0,.int .i64 b1,.int .i64 b2,.int .i64 e0,.int .i64 e1,.int .i64 e2,.int .i64 e3,.int .i64 e4]] w fun e w'=>e=.returned (.bool true)∧Below w.heap.size w w':=by
 obtain ⟨i0,hi,hz0,hz1,hz2⟩:=info_parts pf_infoM
 have hg3:=hGl.size
 have HSh:=Lib.hid (fun W (hb:Below w.heap.size w W)=>shown15_any C W (hGl.below hb hg3))
 have CBl:=Lib.hid (fun W (hb:Below w.heap.size w W)=>C.bad l vl (b0,b1,b2) W (Al.below hb))
 have CEl:=Lib.hid (fun W (hb:Below w.heap.size w W)=>C.edge l vl (e0,e1,e2,e3,e4) W (Al.below hb))
 obtain ⟨la,lc,rfl,l1,l2,l3⟩:=Al.len
 obtain ⟨ma,mc,rfl,m1,m2,m3,HMr⟩:=Am.reads
 obtain ⟨Ll,hLr,hLp⟩:=Al
 obtain ⟨Lm,hMr,hMp⟩:=Am
 have hLlen:=hLp.1
 have hMlen:=hMp.1
 obtain ⟨rb,hrb⟩:∃ z,badB l (b0,b1,b2)=z:=⟨_,rfl⟩
 obtain ⟨re,hre⟩:∃ z,edgeB l (e0,e1,e2,e3,e4)=z:=⟨_,rfl⟩
 have CKb:=Lib.hid (fun (k:List Pf) (vk:Value) W (hk:IsPfs W vk (l++k))=>C.bad (l++k) vk (b0,b1,b2) W hk)
 have CKe:=Lib.hid (fun (k:List Pf) (vk:Value) W (hk:IsPfs W vk (l++k))=>C.edge (l++k) vk (e0,e1,e2,e3,e4) W hk)
 have HMb:Hid (rb=true→∀ k,badB (l++k) (b0,b1,b2)=true):=fun h k=>badB_more l k _ (hrb.trans h)
 have HMe:Hid (re=true→∀ k,edgeB (l++k) (e0,e1,e2,e3,e4)=true):=fun h k=>edgeB_more l k _ (hre.trans h)
 rw [hrb] at CBl
 rw [hre] at CEl
 obtain ⟨nl,hnl⟩:∃ z,l.length=z:=⟨_,rfl⟩
 obtain ⟨nm,hnm⟩:∃ z,m.length=z:=⟨_,rfl⟩
 have HNl:=Lib.hid hnl
 have HNm:=Lib.hid hnm
 rw [hnl] at hLr
 rw [hnm] at hMr
 simp only [hnl] at CBl CEl l1 l3 ⊢
 simp only [hnm] at m1 m3 ⊢
 have X0:=SBox.new w 72 #[.slice la nl lc,.slice ma nm mc,.int .i64 b0,.int .i64 b1,.int .i64 b2,.int .i64 e0,.int .i64 e1,.int .i64 e2,.int .i64 e3,.int .i64 e4]
 have B0:=(Below.refl w.heap.size w).alloc (Nat.le_refl _) (.cells #[.slice la nl lc,.slice ma nm mc,.int .i64 b0,.int .i64 b1,.int .i64 b2,.int .i64 e0,.int .i64 e1,.int .i64 e2,.int .i64 e3,.int .i64 e4] 72)
 have B1:=B0.alloc (by simp) (.cells #[.int .i64 b0,.int .i64 b1,.int .i64 b2] 24)
 have B2:=B1.alloc (by simp;omega) (.cells #[.int .i64 e0,.int .i64 e1,.int .i64 e2,.int .i64 e3,.int .i64 e4] 32)
 have Y5:SBox (((w.alloc (.cells #[.slice la nl lc,.slice ma nm mc,.int .i64 b0,.int .i64 b1,.int .i64 b2,.int .i64 e0,.int .i64 e1,.int .i64 e2,.int .i64 e3,.int .i64 e4] 72)).alloc (.cells #[.int .i64 b0,.int .i64 b1,.int .i64 b2] 24)).alloc (.cells #[.int .i64 e0,.int .i64 e1,.int .i64 e2,.int .i64 e3,.int .i64 e4] 32)) (w.heap.size+1) 24 #[.int .i64 b0,.int .i64 b1,.int .i64 b2]:=by have:=(SBox.new (w.alloc (.cells #[.slice la nl lc,.slice ma nm mc,.int .i64 b0,.int .i64 b1,.int .i64 b2,.int .i64 e0,.int .i64 e1,.int .i64 e2,.int .i64 e3,.int .i64 e4] 72)) 24 #[.int .i64 b0,.int .i64 b1,.int .i64 b2]).alloc (.cells #[.int .i64 e0,.int .i64 e1,.int .i64 e2,.int .i64 e3,.int .i64 e4] 32);rw [World.size_alloc] at this;exact this
 have Y6:SBox (((w.alloc (.cells #[.slice la nl lc,.slice ma nm mc,.int .i64 b0,.int .i64 b1,.int .i64 b2,.int .i64 e0,.int .i64 e1,.int .i64 e2,.int .i64 e3,.int .i64 e4] 72)).alloc (.cells #[.int .i64 b0,.int .i64 b1,.int .i64 b2] 24)).alloc (.cells #[.int .i64 e0,.int .i64 e1,.int .i64 e2,.int .i64 e3,.int .i64 e4] 32)) (w.heap.size+1+1) 32 #[.int .i64 e0,.int .i64 e1,.int .i64 e2,.int .i64 e3,.int .i64 e4]:=by have:=SBox.new ((w.alloc (.cells #[.slice la nl lc,.slice ma nm mc,.int .i64 b0,.int .i64 b1,.int .i64 b2,.int .i64 e0,.int .i64 e1,.int .i64 e2,.int .i64 e3,.int .i64 e4] 72)).alloc (.cells #[.int .i64 b0,.int .i64 b1,.int .i64 b2] 24)) 32 #[.int .i64 e0,.int .i64 e1,.int .i64 e2,.int .i64 e3,.int .i64 e4];simp only [World.size_alloc] at this;exact this
 have HP:=Lib.hid hLp
 have HQ:=Lib.hid hMp
 have HR:=Lib.hid hLr
 have HRm:=Lib.hid hMr
 clear hLr hMr hLp hMp hnl hnm hrb hre hLlen hMlen hGl
 have x0:=X0.cell 0 _ rfl
 have x1:=X0.cell 1 _ rfl
 have z0:=(X0.alloc (.cells #[.int .i64 b0,.int .i64 b1,.int .i64 b2] 24)).cell 0 _ rfl
 have y2:=(X0.cell 2 _ rfl)
 have y3:=(X0.cell 3 _ rfl)
 have y4:=(X0.cell 4 _ rfl)
 have y5:=((X0.alloc (.cells #[.int .i64 b0,.int .i64 b1,.int .i64 b2] 24)).cell 5 _ rfl)
 have y6:=((X0.alloc (.cells #[.int .i64 b0,.int .i64 b1,.int .i64 b2] 24)).cell 6 _ rfl)
 have y7:=((X0.alloc (.cells #[.int .i64 b0,.int .i64 b1,.int .i64 b2] 24)).cell 7 _ rfl)
 have y8:=((X0.alloc (.cells #[.int .i64 b0,.int .i64 b1,.int .i64 b2] 24)).cell 8 _ rfl)
 have y9:=((X0.alloc (.cells #[.int .i64 b0,.int .i64 b1,.int .i64 b2] 24)).cell 9 _ rfl)
 clear X0
 go_enter Tryz.func7,Tryz.ntmps7
 go_upto_region 5 with fail
 generalize hW:((w.alloc (.cells #[.slice la nl lc,.slice ma nm mc,.int .i64 b0,.int .i64 b1,.int .i64 b2,.int .i64 e0,.int .i64 e1,.int .i64 e2,.int .i64 e3,.int .i64 e4] 72)).alloc (.cells #[.int .i64 b0,.int .i64 b1,.int .i64 b2] 24)).alloc (.cells #[.int .i64 e0,.int .i64 e1,.int .i64 e2,.int .i64 e3,.int .i64 e4] 32)=W0 at B2 Y5 Y6
 (try rw [hW])
 (try simp only [World.size_alloc])
 clear hW B0 B1 x0 x1 z0 y2 y3 y4 y5 y6 y7 y8 y9
 go_wp2_with fail
 refine (HSh.out _ B2).mono ?_
 rintro e w1 ⟨rfl,c1⟩
 have B3:=bel_trans B2 c1
 have Z5:=Y5.below c1
 have Z6:=Y6.below c1
 clear B2 Y5 Y6 c1
 by_cases hql:nl≤60
 ·have j1:decide ((nl:Int) > 60)=false:=decide_eq_false (by omega)
  have j2:decide (60 < nl)=false:=decide_eq_false (by omega)
  by_cases hqm:nm≤60
  ·have j3:decide ((nm:Int) > 60)=false:=decide_eq_false (by omega)
   have j4:decide (60 < nm)=false:=decide_eq_false (by omega)
   have HB3:=Lib.hid B3
   have HZ5:=Lib.hid Z5
   have HZ6:=Lib.hid Z6
   go_upto_region 8 with fail
   clear j1 j2 j3 j4
   go_cut [8] from 28 to 30 (fun s8 W=>KS w W (w.heap.size+1) (w.heap.size+1+1) #[.int .i64 b0,.int .i64 b1,.int .i64 b2] #[.int .i64 e0,.int .i64 e1,.int .i64 e2,.int .i64 e3,.int .i64 e4] s8 l)
   case first =>
    have E1:=own_empty8 w1 55 6
    have S0:KS w (w1.alloc (.cells #[] 55)) (w.heap.size+1) (w.heap.size+1+1) #[.int .i64 b0,.int .i64 b1,.int .i64 b2] #[.int .i64 e0,.int .i64 e1,.int .i64 e2,.int .i64 e3,.int .i64 e4] (.slice (some ⟨w1.heap.size,0,none⟩) 0 0) []:=⟨HB3.out.alloc HB3.out.size _,HZ5.out.alloc _,HZ6.out.alloc _,[],owns_base15 E1 HB3.out.size,PfOf.nil w⟩
    have O0:(w1.alloc (.cells #[] 55)).ownsRow w.heap.size 55 6 (.slice (some ⟨w1.heap.size,0,none⟩) 0 0) 0 (recV pfV []):=owns_base15 E1 HB3.out.size
    have HS0:=Lib.hid S0
    have hsz:=HB3.out.size
    have HBa:=Lib.hid (HB3.out.alloc HB3.out.size (.cells #[] 55))
    clear S0 E1 B3 Z5 Z6
    cases la with
    | none =>
      have hl0:l=[]:=by
       obtain ⟨a',n',c',hv,g1,g2,g3,g4,g5⟩:=HR.out
       have hv':(none:Option Addr)=a'∧nl=n'∧lc=c':=by simpa using hv
       obtain ⟨rfl,rfl,rfl⟩:=hv'
       rcases g5 with g5 | ⟨b,off,g6,_⟩
       ·exact List.length_eq_zero_iff.1 (HNl.out.trans g5)
       ·cases g6
      have hn0:nl=0:=by have:=HNl.out;rw [hl0] at this;exact this.symm
      subst hn0
      go_wp2_with (at_builtin;refine wpList_append_own_none rfl _ _ 28 rfl w.heap.size 55 i0 6 Tryz.underlying28 hi _ _ _ rfl O0 rfl ?_)
      go_wp2_with fail
      go_meet
      rw [hl0]
      exact HS0.out
    | some ad =>
      go_wp2_with (at_builtin;refine wpList_append_own _ rfl _ _ 28 rfl w.heap.size 55 i0 (.agg #[.int .i64 0,.int .i64 0,.int .i64 0,.string ByteArray.empty,.string ByteArray.empty,.slice none 0 0]) 6 80 Tryz.underlying28 hi hz0 hz1 hz2 rfl (by decide) _ _ _ rfl O0 ad nl lc (recV pfV Ll) rfl ?q1 ?q2 ?q3 ?q4 ?q5 ?q6 ?_)
      case q1=>rw [recV_length pfV_len,HP.out.1,HNl.out]
      case q2=>exact IsRec.src pfV_len (by omega) HR.out HBa.out
      case q3=>exact pfs_one15 HP.out
      case q4=>unfold maxLen;omega
      case q5=>omega
      case q6=>simp;omega
      intro v' w2 hown2 hgrow2 _
      have HS2:Hid (KS w w2 (w.heap.size+1) (w.heap.size+1+1) #[.int .i64 b0,.int .i64 b1,.int .i64 b2] #[.int .i64 e0,.int .i64 e1,.int .i64 e2,.int .i64 e3,.int .i64 e4] v' l):=by
       refine HS0.out.grow O0 hgrow2 (N':=Ll) (N:=l) ?_ HP.out
       rw [HP.out.1,HNl.out]
       simpa [recV] using hown2
      obtain ⟨na,nc,rfl⟩:=owns_slice15 hown2
      clear hown2 hgrow2 O0 HS0
      go_wp2_with fail
      go_meet
      exact HS2.out
   case rest =>
    have S1:=hcut
    clear hcut B3 Z5 Z6 HB3 HZ5 HZ6 HR
    obtain ⟨ka,kc,rfl⟩:=S1.len
    have HS1:Hid (KS w wc (w.heap.size+1) (w.heap.size+1+1) #[.int .i64 b0,.int .i64 b1,.int .i64 b2] #[.int .i64 e0,.int .i64 e1,.int .i64 e2,.int .i64 e3,.int .i64 e4] (.slice ka l.length kc) (l++(m.take 0).filter rdF)):=by show KS _ _ _ _ _ _ _ _;simpa using S1
    clear S1
    go_wp2_with fail
    go_loopw [8,9] (fun s8 i wr=>∃ k:Nat,k≤nm∧i=.int .i64 k∧Hid (KS w wr (w.heap.size+1) (w.heap.size+1+1) #[.int .i64 b0,.int .i64 b1,.int .i64 b2] #[.int .i64 e0,.int .i64 e1,.int .i64 e2,.int .i64 e3,.int .i64 e4] s8 (l++(m.take k).filter rdF))∧Hid (∃ a n c,s8=.slice a n c)) (fun _ i _=>nm - (RowKit.intOf i).toNat)
    case atStart=>exact ⟨0,Nat.zero_le _,rfl,HS1,⟨_,_,_,rfl⟩⟩
    case round =>
     obtain ⟨k,hk,rfl,HS,Hsh⟩:=hrel
     by_cases hlt:k < nm
     ·have j0:(k:Int) < (nm:Int):=by omega
      have jw:IntKind.i64.wrap ((k:Int)+1)=(k:Int)+1:=by rw [IntKind.wrap_i64];omega
      have hkm:k < m.length:=by have:=HNm.out;omega
      obtain ⟨bb,off,rfl,u,hu,HQ1⟩:=HMr.out k hkm
      obtain ⟨v0,v1,v2,v3,v4,v5⟩:=HQ1 wr HS.out.bel
      obtain ⟨ua,uc,rfl,_⟩:=hu.some_at
      have HN1:=Lib.hid (rd_next m k hkm)
      obtain ⟨sa,sn,sc,rfl⟩:=Hsh.out
      obtain ⟨⟨y0,⟨x0,x1,x2,x3⟩,q⟩,hx⟩:∃ x,m[k]=x:=⟨_,rfl⟩
      rw [hx] at v0 v1 v2 v3 v4 v5 HN1 hu
      simp only at v0 v1 v2 v3 v4 v5 hu
      have hu2:=Lib.hid hu
      obtain ⟨un,hun⟩:∃ z,q.length=z:=⟨_,rfl⟩
      rw [hun] at v5 hu2
      obtain ⟨rd,hrd⟩:∃ z,(x0==2)=z:=⟨_,rfl⟩
      have HRd:Hid (rdF (y0,(x0,x1,x2,x3),q)=rd):=hrd
      have hlk:((m.take k).filter rdF).length≤nm:=by
       refine Nat.le_trans (List.length_filter_le _ _) ?_
       rw [List.length_take];omega
      clear hx hun hu
      cases rd with
      | false =>
        have HN2:Hid ((m.take (k+1)).filter rdF=(m.take k).filter rdF):=by show _=_;rw [HN1.out,HRd.out];simp
        go_wp2_with fail
        go_roundw
        case rel=>exact ⟨k+1,by omega,by first | go_num | simp,by show Hid (KS _ _ _ _ _ _ _ (l++(m.take (k+1)).filter rdF));rw [HN2.out];exact HS,Hsh⟩
        case measure=>simp [RowKit.intOf];omega
      | true =>
        have HN2:Hid ((m.take (k+1)).filter rdF=(m.take k).filter rdF++[(y0,(x0,x1,x2,x3),q)]):=by show _=_;rw [HN1.out,HRd.out];rfl
        obtain ⟨M',row,hp⟩:=HS.out.row
        have hMl:M'.length≤120:=by
         rw [hp.1,List.length_append,HNl.out]
         omega
        have hsl:sn=M'.length:=by
         obtain ⟨a9,c9,h9⟩:=owns_slice15 row
         injection h9
        subst hsl
        have B9:=HS.out.bel
        have HSa:=Lib.hid (HS.out.below ((Below.refl wr.heap.size wr).alloc (Nat.le_refl _) (.cells (pfV (y0,(x0,x1,x2,x3),.slice ua un uc)).toArray 55)))
        have rowa:=owns_below row ((Below.refl wr.heap.size wr).alloc (Nat.le_refl _) (.cells (pfV (y0,(x0,x1,x2,x3),.slice ua un uc)).toArray 55))
        have hsz:=B9.size
        have Hp:=Lib.hid hp
        have Hrow:=Lib.hid rowa
        clear row hp B9 rowa
        go_wp2_with (at_builtin;refine wpList_append_own _ rfl _ _ 28 rfl w.heap.size 55 i0 (.agg #[.int .i64 0,.int .i64 0,.int .i64 0,.string ByteArray.empty,.string ByteArray.empty,.slice none 0 0]) 6 80 Tryz.underlying28 hi hz0 hz1 hz2 rfl (by decide) _ _ _ rfl Hrow.out ⟨wr.heap.size,0,none⟩ 1 1 (pfV (y0,(x0,x1,x2,x3),.slice ua un uc)) rfl ?q1 ?q2 ?q3 ?q4 ?q5 ?q6 ?_)
        case q1=>rfl
        case q2 =>
         intro j z hj
         have ea:(⟨wr.heap.size,0,none⟩:Addr).add j=⟨wr.heap.size,j,none⟩:=by unfold Addr.add;split<;>simp_all
         rw [ea]
         exact (SBox.new wr 55 (pfV (y0,(x0,x1,x2,x3),.slice ua un uc)).toArray).cell j z (by simpa using hj)
        case q3=>intro z hz;simp [pfV] at hz;rcases hz with rfl | rfl | rfl | rfl | rfl | rfl<;>rfl
        case q4=>unfold maxLen;omega
        case q5=>omega
        case q6=>simp;omega
        intro v' w2 hown2 hgrow2 _
        obtain ⟨na,nc,rfl⟩:=owns_slice15 hown2
        have HS2:Hid (KS w w2 (w.heap.size+1) (w.heap.size+1+1) #[.int .i64 b0,.int .i64 b1,.int .i64 b2] #[.int .i64 e0,.int .i64 e1,.int .i64 e2,.int .i64 e3,.int .i64 e4] (.slice na (M'.length+1) nc) (l++(m.take (k+1)).filter rdF)):=by
         show KS _ _ _ _ _ _ _ _
         rw [HN2.out,← List.append_assoc]
         refine HSa.out.grow Hrow.out hgrow2 (N':=M'++[(y0,(x0,x1,x2,x3),.slice ua un uc)]) ?_ (Hp.out.push _ _ ⟨rfl,rfl,hu2.out⟩)
         rw [List.length_append]
         have e:recV pfV (M'++[(y0,(x0,x1,x2,x3),.slice ua un uc)])=recV pfV M'++pfV (y0,(x0,x1,x2,x3),.slice ua un uc):=by rw [recV_append];simp [recV]
         rw [e]
         exact hown2
        clear v0 v1 v2 v3 v4 v5 HSa Hrow
        go_wp2_with fail
        go_roundw
        case rel=>exact ⟨k+1,by omega,by first | go_num | simp,HS2,⟨_,_,_,rfl⟩⟩
        case measure=>simp [RowKit.intOf];omega
     ·obtain rfl:k=nm:=by omega
      have jq:¬ (k:Int) < (k:Int):=by omega
      have hfl:(l++(m.take k).filter rdF).length≤1000:=by
       rw [List.length_append,HNl.out]
       have:=List.length_filter_le rdF (m.take k)
       rw [List.length_take] at this
       omega
      obtain ⟨sa,sc,rfl⟩:=HS.out.len
      have S9:=HS.out
      obtain ⟨kk,hkk⟩:∃ z,(m.take k).filter rdF=z:=⟨_,rfl⟩
      rw [hkk] at S9 hfl ⊢
      obtain ⟨kn,hkn⟩:∃ z,(l++kk).length=z:=⟨_,rfl⟩
      have HKN:=Lib.hid hkn
      rw [hkn] at S9 ⊢
      have B9:=S9.bel
      have g5:=S9.b5.cell 0 _ rfl
      have g51:=S9.b5.cell 1 _ rfl
      have g52:=S9.b5.cell 2 _ rfl
      have g60:=S9.b6.cell 0 _ rfl
      have g61:=S9.b6.cell 1 _ rfl
      have g62:=S9.b6.cell 2 _ rfl
      have g63:=S9.b6.cell 3 _ rfl
      have g64:=S9.b6.cell 4 _ rfl
      have D1:=CBl.out _ B9
      have HS9:=Lib.hid S9
      have hmb:=Lib.hid (fun h=>HMb.out h kk)
      have hme:=Lib.hid (fun h=>HMe.out h kk)
      have HBK:=Lib.hid (fun V (hV:Below wr.heap.size wr V)=>CKb.out kk _ V ((S9.below hV).pfs hfl))
      have HEK:=Lib.hid (fun V (hV:Below wr.heap.size wr V)=>CKe.out kk _ V ((S9.below hV).pfs hfl))
      clear S9 hkk hkn HS Hsh HMb HMe CKb CKe
      go_upto_region 14 with fail
      cases rb with
      | false =>
        go_wp2_with fail
        refine D1.mono ?_
        rintro e wA ⟨rfl,bwA⟩
        have BwA:Below wr.heap.size wr wA:=bwA
        have SwA:=HS9.out.below BwA
        clear g5 g51 g52 g60 g61 g62 g63 g64
        have g5:=SwA.b5.cell 0 _ rfl
        have g51:=SwA.b5.cell 1 _ rfl
        have g52:=SwA.b5.cell 2 _ rfl
        have g60:=SwA.b6.cell 0 _ rfl
        have g61:=SwA.b6.cell 1 _ rfl
        have g62:=SwA.b6.cell 2 _ rfl
        have g63:=SwA.b6.cell 3 _ rfl
        have g64:=SwA.b6.cell 4 _ rfl
        have HSwA:=Lib.hid SwA.bel
        clear SwA
        have DE:=CEl.out _ HSwA.out
        cases re with
        | false =>
          go_wp2_with fail
          refine DE.mono ?_
          rintro e wX ⟨rfl,bwX⟩
          have BwX:Below wr.heap.size wr wX:=bel_trans BwA bwX
          go_wp2_with fail
          go_ret
          exact ⟨rfl,(HS9.out.below BwX).bel⟩
        | true =>
          go_wp2_with fail
          refine DE.mono ?_
          rintro e wX ⟨rfl,bwX⟩
          have BwX:Below wr.heap.size wr wX:=bel_trans BwA bwX
          have SwX:=HS9.out.below BwX
          clear g5 g51 g52 g60 g61 g62 g63 g64
          have g5:=SwX.b5.cell 0 _ rfl
          have g51:=SwX.b5.cell 1 _ rfl
          have g52:=SwX.b5.cell 2 _ rfl
          have g60:=SwX.b6.cell 0 _ rfl
          have g61:=SwX.b6.cell 1 _ rfl
          have g62:=SwX.b6.cell 2 _ rfl
          have g63:=SwX.b6.cell 3 _ rfl
          have g64:=SwX.b6.cell 4 _ rfl
          have HSwX:=Lib.hid SwX.bel
          clear SwX
          have DK:=HEK.out _ BwX
          rw [hme.out (by simp)] at DK
          go_wp2_with fail
          refine DK.mono ?_
          rintro e wY ⟨rfl,bwY⟩
          have BwY:Below wr.heap.size wr wY:=bel_trans BwX bwY
          go_wp2_with fail
          go_ret
          exact ⟨rfl,(HS9.out.below BwY).bel⟩
      | true =>
        go_wp2_with fail
        refine D1.mono ?_
        rintro e wA ⟨rfl,bwA⟩
        have BwA:Below wr.heap.size wr wA:=bwA
        have SwA:=HS9.out.below BwA
        clear g5 g51 g52 g60 g61 g62 g63 g64
        have g5:=SwA.b5.cell 0 _ rfl
        have g51:=SwA.b5.cell 1 _ rfl
        have g52:=SwA.b5.cell 2 _ rfl
        have g60:=SwA.b6.cell 0 _ rfl
        have g61:=SwA.b6.cell 1 _ rfl
        have g62:=SwA.b6.cell 2 _ rfl
        have g63:=SwA.b6.cell 3 _ rfl
        have g64:=SwA.b6.cell 4 _ rfl
        have HSwA:=Lib.hid SwA.bel
        clear SwA
        have DB:=HBK.out _ BwA
        rw [hmb.out (by simp)] at DB
        go_wp2_with fail
        refine DB.mono ?_
        rintro e wB ⟨rfl,bwB⟩
        have BwB:Below wr.heap.size wr wB:=bel_trans BwA bwB
        have SwB:=HS9.out.below BwB
        clear g5 g51 g52 g60 g61 g62 g63 g64
        have g5:=SwB.b5.cell 0 _ rfl
        have g51:=SwB.b5.cell 1 _ rfl
        have g52:=SwB.b5.cell 2 _ rfl
        have g60:=SwB.b6.cell 0 _ rfl
        have g61:=SwB.b6.cell 1 _ rfl
        have g62:=SwB.b6.cell 2 _ rfl
        have g63:=SwB.b6.cell 3 _ rfl
        have g64:=SwB.b6.cell 4 _ rfl
        have HSwB:=Lib.hid SwB.bel
        clear SwB
        have DE:=CEl.out _ HSwB.out
        cases re with
        | false =>
          go_wp2_with fail
          refine DE.mono ?_
          rintro e wX ⟨rfl,bwX⟩
          have BwX:Below wr.heap.size wr wX:=bel_trans BwB bwX
          go_wp2_with fail
          go_ret
          exact ⟨rfl,(HS9.out.below BwX).bel⟩
        | true =>
          go_wp2_with fail
          refine DE.mono ?_
          rintro e wX ⟨rfl,bwX⟩
          have BwX:Below wr.heap.size wr wX:=bel_trans BwB bwX
          have SwX:=HS9.out.below BwX
          clear g5 g51 g52 g60 g61 g62 g63 g64
          have g5:=SwX.b5.cell 0 _ rfl
          have g51:=SwX.b5.cell 1 _ rfl
          have g52:=SwX.b5.cell 2 _ rfl
          have g60:=SwX.b6.cell 0 _ rfl
          have g61:=SwX.b6.cell 1 _ rfl
          have g62:=SwX.b6.cell 2 _ rfl
          have g63:=SwX.b6.cell 3 _ rfl
          have g64:=SwX.b6.cell 4 _ rfl
          have HSwX:=Lib.hid SwX.bel
          clear SwX
          have DK:=HEK.out _ BwX
          rw [hme.out (by simp)] at DK
          go_wp2_with fail
          refine DK.mono ?_
          rintro e wY ⟨rfl,bwY⟩
          have BwY:Below wr.heap.size wr wY:=bel_trans BwX bwY
          go_wp2_with fail
          go_ret
          exact ⟨rfl,(HS9.out.below BwY).bel⟩
  ·have j3:decide ((nm:Int) > 60)=true:=decide_eq_true (by omega)
   have j4:decide (60 < nm)=true:=decide_eq_true (by omega)
   go_wp2_with fail
   go_ret
   exact ⟨rfl,B3⟩
 ·have j1:decide ((nl:Int) > 60)=true:=decide_eq_true (by omega)
  have j2:decide (60 < nl)=true:=decide_eq_true (by omega)
  go_wp2_with fail
  go_ret
  exact ⟨rfl,B3⟩
end Go.Proofs.YthamoeekiglphaaGreatDoor
